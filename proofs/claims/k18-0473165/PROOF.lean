import PyProof.Rows.All
import Wide.All
import OpenK.AllK
import Wide.FinOn
import Lean
import PyProof.EqAt
import PyProof.EqKinds
import PyProof.TupleCall
import PyProof.ZipIter
import PyProof.Draws
import PyProof.SumAny
import PyProof.EnumMake
import PyProof.WalkInts
import PyProof.ExcArgsOwn
import PyProof.ExcAttrAll.ValueError
import PyProof.NsDelKeeps
import KE.KTryMore
import OpenK.KOwn
import PyProof.ListMulRoad
import PyProof.FactsAll.tuple_2
import PyProof.NeKinds
import PyProof.Rows.RuleIs
import PyProof.ExcInit
import PyProof.ExcClass3
import OpenK.KCls
import PyProof.InstStoreFacts
import OpenK.KMake
import PyProof.DictRoads
import PyProof.Rows.CountFlat
import PyProof.ListRange
import PyProof.Rows.SetFrom
import PyProof.CollectStr
import PyProof.Rows.TupMore
import PyProof.AttrMissHeap
import KE.KDictOf
import PyProof.DictWalks
import KE.KSortTup
import PyProof.DictItemsLoops
import KE.KDictList
import PyProof.CallStr
import PyProof.Conv_int_bool
import PySem.Challenge.RW_lendwharf_k18_runs_refused
set_option Elab.async false
set_option linter.all false
set_option maxRecDepth 100000
set_option maxHeartbeats 4000000
open List renaming getElem?_eq_some_iff -> O0, length_map -> O2, getElem?_append_left -> O3, size_toArray -> O4, getElem?_eq_getElem -> O5, length_append -> O6, getElem?_set_ne -> O7, getElem?_append_right -> D0, mem_cons_of_mem -> D1, mem_cons -> D4, mem_cons_self -> D5, mem_of_getElem? -> D6, length_cons -> D7, length_set -> D9, lookup_cons -> E2, getElem?_set_self -> E3, mem_append_right -> E4, getElem?_map -> E5, mem_range -> E6, mem_append -> F1, map_cons -> F2, map_append -> F3, not_mem_nil -> F6, mem_append_left -> F7, append_assoc -> F8, getD_eq_getElem?_getD -> F9, append_nil -> G6, all_eq_true -> G7, length_range -> G9, map_map -> L5
open PySem.Heap renaming get?_push_of_some -> O1, lt_size -> O9, get?_push_size -> D8, get?_update_other -> E7, size_push -> F4, get?_update_self -> G8
open Nat renaming le_refl -> O8, lt_of_lt_of_le -> D3, le_of_lt -> E8, ne_of_lt -> E9, le_trans -> F0
open Bool renaming false_ne_true -> D2, and_eq_true -> F5
open PySem renaming Addr -> aA, Value -> aB, Shared -> aC, Expr -> aD, wpAny_bind -> aF, wpAny -> aI, model -> aJ, Stmt -> aK, World -> aL, eval -> aM, Program -> aN, starEach -> aO, FuncData -> aP, Around -> aQ, wpAny_pure -> aR, mainGlobals -> aS, backTo -> aU, compareOp -> aV, binaryOp -> aW, IsPair -> aX, wpAny_field -> aY, bootBuiltins -> aZ, cLine -> aa, wpAny_mono -> ae, rawInt -> af, cellsFrom -> ag, sysModules -> ai, holding -> aj, attributeBase -> ak, NameKind -> ao, assignEach -> aq, wpAny_truthy_bool -> ar, call_meets -> au, wpAny_holding -> av, foldedSetIterable -> aw, wpAny_newObj_type -> ay, Paired -> az, wpAny_seqItems -> bA, wpAny_passesOwn -> bB, pyNext -> bC, sliceBounds -> bD, valueAt -> bE, behindInMarks -> bF, codeAny_mono -> bG, wpAny_call_entry -> bH, wpAny_setField_rec -> bI, wpAny_typeOf -> bJ, wpAny_rule -> bK, wpAny_pyIter_tuple -> bL
noncomputable section
theorem bN {c:Prop}{h:Decidable c}(q:c){α:Sort _}{t e:α}:ite c t e=t:=if_pos q
theorem bO {c:Prop}{h:Decidable c}(q:¬c){α:Sort _}{t e:α}:ite c t e=e:=if_neg q
theorem bP {p:Prop}[i:Decidable p](h:¬p):decide p=false:=decide_eq_false h
theorem bQ {p:Prop}[i:Decidable p](h:p):decide p=true:=decide_eq_true h
namespace L2
open PySem PySem.Spec PyProof.Rows
variable {us:List aB} {u:aB} {a b it dx:aA} {g':Array GenState} {t' n:Nat} {d':Drawn} {ch fp:List aA} {M:Model} {A:aQ} {E:aB->aC->Prop} {Q:Unit->aC->Prop} {s':aC} {K:PySem.W.Frag} {c tg l:aD} {es:List aD} {g:Int->Int->Int} {f:aB->aB->Sem aB} {op:CmpOp} {mA mg:Str->Option aB} {kw:List (Str × aB)} {fd:aP} {ps:List Str}
abbrev Key:=Sum Int Str
def Kg:Key->aB->Bool
 | .inl k,v=>Value.isInt k v
 | .inr x,v=>Value.isStrOf x v
def Qzd (w:aL):Key->Int
 | .inl k=>hashInt k
 | .inr x=>hashStr w x
theorem W8:∀ {k:Key} {v:aB},Kg k v=true->(∃ i t,k=Sum.inl i/\v=Value.int i t)\/(∃ x t,k=Sum.inr x/\v=Value.str x t)
 | .inl i,v,h=>by
  obtain ⟨t,e⟩:=Value.isInt_shape (k:=i) (v:=v) h;exact .inl ⟨i,t,rfl,e⟩
 | .inr x,v,h=>by
  obtain ⟨t,e⟩:=Value.isStrOf_shape (x:=x) (v:=v) h;exact .inr ⟨x,t,rfl,e⟩
theorem Qg2 (i:Int) (t:Tok):Kg (.inl i) (.int i t)=true:=by simp [Kg,Value.isInt]
theorem Qg1 (x:Str) (t:Tok):Kg (.inr x) (.str x t)=true:=by simp [Kg,Value.isStrOf]
theorem Qtw (a b:Int):decide ((Sum.inl a:Key)=Sum.inl b)=(a == b):=by
 by_cases e:a=b
 ·subst e; simp
 ·have h:¬ (Sum.inl a:Key)=Sum.inl b:=fun q=>e (Sum.inl.inj q)
  rw [bP h];exact (beq_eq_false_iff_ne.mpr e).symm
theorem Qtt (a b:Str):decide ((Sum.inr a:Key)=Sum.inr b)=decide (a=b):=by
 by_cases e:a=b
 ·subst e; simp
 ·have h:¬ (Sum.inr a:Key)=Sum.inr b:=fun q=>e (Sum.inr.inj q)
  rw [bP h,bP e]
theorem Qtv (a:Int) (b:Str):decide ((Sum.inl a:Key)=Sum.inr b)=false:=bP (fun q=>nomatch q)
theorem Qtu (a:Str) (b:Int):decide ((Sum.inr a:Key)=Sum.inl b)=false:=bP (fun q=>nomatch q)
def Qx (prog:aN) (w:aL):PySem.KeyKind prog w Key where
 is:=Kg
 hash:=Qzd w
 inj:=fun v a b ha hb=>by
  rcases W8 ha with ⟨i,t,rfl,rfl⟩ | ⟨x,t,rfl,rfl⟩
  ·rcases W8 hb with ⟨j,u,rfl,e⟩ | ⟨y,u,rfl,e⟩
   ·injection e with e1 _; rw [e1]
   ·exact nomatch e
  ·rcases W8 hb with ⟨j,u,rfl,e⟩ | ⟨y,u,rfl,e⟩
   ·exact nomatch e
   ·injection e with e1 _; rw [e1]
 byValue:=fun k v h=>by
  rcases W8 h with ⟨i,t,rfl,rfl⟩ | ⟨x,t,rfl,rfl⟩ <;> rfl
 pyHash:=fun hv h=>by
  rcases W8 hv with ⟨i,t,rfl,rfl⟩ | ⟨x,t,rfl,rfl⟩
  ·exact wpAny_pyHash_int h
  ·exact wpAny_pyHash_str h
 eqBool:=fun hu hv h=>by
  rcases W8 hu with ⟨i,t,rfl,rfl⟩ | ⟨x,t,rfl,rfl⟩
  ·rcases W8 hv with ⟨j,u,rfl,rfl⟩ | ⟨y,u,rfl,rfl⟩
   ·rw [Qtw] at h; exact wpAny_eqBool_int h
   ·rw [Qtv] at h; exact SeqAt.EqAt.int_str i t y u _ _ _ _ h
  ·rcases W8 hv with ⟨j,u,rfl,rfl⟩ | ⟨y,u,rfl,rfl⟩
   ·rw [Qtu] at h; exact SeqAt.EqAt.str_int x t j u _ _ _ _ h
   ·rw [Qtt] at h; exact wpAny_eqBool_str h
 «strs»:=fun k x t v h=>by
  rcases W8 h with ⟨i,u,rfl,e⟩ | ⟨y,u,rfl,e⟩
  ·exact nomatch e
  ·injection e with e1 _
   subst e1;cases v <;> rfl
theorem Qax (prog:aN) (w:aL) (i:Int) (t:Tok):(Qx prog w).is (.inl i) (.int i t)=true:=Qg2 i t
theorem Qaw (prog:aN) (w:aL) (x:Str) (t:Tok):(Qx prog w).is (.inr x) (.str x t)=true:=Qg1 x t
inductive V where
 | non | bl (b:Bool) | int (i:Int) | str (x:Str) | byt (b:Array UInt8) | flt (b:UInt64) | ref (a:aA) | ty (n:String)
 deriving DecidableEq
variable {v y:V} {vs:List V}
def RelV:V->aB->Prop
 | .non,u=>u=Value.none
 | .bl b,u=>u=Value.bool b
 | .int i,u=>∃ t,u=Value.int i t
 | .str x,u=>∃ t,u=Value.str x t
 | .byt b,u=>∃ t,u=Value.bytes b t
 | .flt b,u=>∃ t,u=Value.float b t
 | .ref a,u=>u=Value.ref a
 | .ty n,u=>u=Value.type n
abbrev Vals:List V->List aB->Prop:=az RelV
theorem Vals.length {xs:List V} (r:Vals xs us):xs.length=us.length:=Paired.length r
theorem Vals.get:∀ {xs:List V} {us:List aB} {i:Nat} {x:V},Vals xs us->xs[i]?=some x->∃ u,us[i]?=some u/\RelV x u
 | _,_,_,_,.nil,e=>by simp at e
 | _,_,0,_,.cons r _,e=>by simp at e; subst e; exact ⟨_,rfl,r⟩
 | _,_,i + 1,x,.cons _ t,e=>by
  obtain ⟨u,h1,h2⟩:=Vals.get (i:=i) (x:=x) t (by simpa using e);exact ⟨u,by simpa using h1,h2⟩
theorem Vals.set {x:V} (r:RelV x u):∀ {xs:List V} {us:List aB} (i:Nat),Vals xs us->Vals (xs.set i x) (us.set i u)
 | _,_,_,.nil=>.nil
 | _,_,0,.cons _ t=>.cons r t
 | _,_,i + 1,.cons q t=>.cons q (Vals.set r i t)
theorem Vals.append:∀ {xs ys:List V} {us q:List aB},Vals xs us->Vals ys q->Vals (xs ++ ys) (us ++ q)
 | _,_,_,_,.nil,s=>s
 | _,_,_,_,.cons r t,s=>.cons r (Vals.append t s)
theorem Vals.take:∀ {xs:List V} {us:List aB} (n:Nat),Vals xs us->Vals (xs.take n) (us.take n)
 | _,_,0,_=>.nil
 | _,_,_ + 1,.nil=>.nil
 | _,_,n + 1,.cons r t=>.cons r (Vals.take n t)
theorem Vals.drop:∀ {xs:List V} {us:List aB} (n:Nat),Vals xs us->Vals (xs.drop n) (us.drop n)
 | _,_,0,r=>r
 | _,_,_ + 1,.nil=>.nil
 | _,_,n + 1,.cons _ t=>Vals.drop n t
def RelO:Option V->Option aB->Prop
 | some v,some u=>RelV v u
 | none,none=>True
 | _,_=>False
def KV {κ:Type}:List (κ × V)->List (κ × aB)->Prop:=az fun (p:κ × V) (q:κ × aB)=>p.1=q.1/\RelV p.2 q.2
def kV:Key->V
 | .inl i=>.int i
 | .inr x=>.str x
inductive HO where
 | lst (xs:List V)
 | tup (xs:List V)
 | dK (kvs:List (Key × V)) | dT (kvs:List (List Key × V))
 | set (S:Int->Bool) (n:Nat)
 | ins (C dx:aA) (fs:List (Str × V))
 | own (x:aA)
 | xd (fs:List (Str × V))
 | met (f x:aA)
 | rng (lo hi:Int)
 | frz (o:Obj) (u:HO)
 | tbl (ps:Array aB)
 | ext (φ:Heap->Prop)
variable {o:HO}
abbrev Hp:=aA->Option HO
variable {H:Hp}
def upd (H:Hp) (a:aA) (o:HO):Hp:=fun b=>if b=a then some o else H b
theorem Qj :upd H a o a=some o:=by unfold upd; rw [bN rfl]
theorem Qb (h:b≠a):upd H a o b=H b:=by unfold upd; rw [bO h]
theorem Qe (h:H a=some o) (h':H b=none):a≠b:=by
 intro e; subst e; rw [h] at h'; cases h'
section
variable (P:aN) (w:aL)
def ObjOk (H:Hp) (h:Heap) (a:aA):HO->Prop
 | .lst xs=>xs.length<=sizeLine/\∃ (its:List aB) (n:Nat),Vals xs its/\h.get? a=some { cls:=.type "list",data:=.seq its.toArray n }
 | .tup xs=>xs.length<=sizeLine/\∃ its:List aB,Vals xs its/\IsTup h a its.toArray
 | .dK kvs=>kvs.length<=sizeLine/\(a == ai)=false/\∃ vs,KV kvs vs/\h.DictOf (Qx P w) a vs
 | .dT kvs=>kvs.length<=sizeLine/\(a == ai)=false/\∃ xs:List (List Key × aA × aB),
   az (fun (p:List Key × V) (q:List Key × aA × aB)=>p.1=q.1/\H q.2.1=some (.tup (p.1.map kV))/\RelV p.2 q.2.2) kvs xs /\
   ∃ o es ep,h.get? a=some o/\o.ExactDict/\o.data=.dict es ep/\es.toList=xs.map (entryOfKey (tupleKind (Qx P w)))/\(xs.map (·.1)).Nodup
 | .set S n=>h.SetOf (intKind P w) a S n
 | .ins C dx fs=>H dx=some (.own a)/\fs.length<=1000/\dx≠a/\h.get? a=some (PySem.W.instObj C dx) /\
   ∃ mA,h.Ns1 dx mA/\(∀ f,RelO (fs.lookup f) (mA f))/\PySem.Within mA (fs.map (·.1))
 | .own _=>∃ o,h.get? a=some o
 | .xd fs=>∃ mA,h.Ns1 a mA/\∀ f,RelO (fs.lookup f) (mA f)
 | .rng lo hi=>∃ t u v,h.get? a=some { cls:=.type "range",data:=.fields #[.int lo t,.int hi u,.int 1 v] }
 | .frz o u=>h.get? a=some o/\ObjOk H h a u
 | .tbl ps=>h.get? a=some { cls:=.none,data:=.fields ps }
 | .met f x=>h.get? a=some (PySem.W.methodObj (.ref f) (.ref x))
 | .ext φ=>φ h/\(∃ o,h.get? a=some o)/\∀ h1 h2:Heap,φ h1->(∀ o,h1.get? a=some o->h2.get? a=some o)->φ h2
def HOk (H:Hp) (h:Heap):Prop:=∀ a o,H a=some o->ObjOk P w H h a o
end
variable {P:aN} {H H':Hp} {h':Heap} {a:aA} {o:HO}
section
variable {w:aL} {h:Heap}
theorem ObjOk.lt (x:ObjOk P w H h a o):a < h.objs.size:=by
 cases o with
 | lst xs=>obtain ⟨_,_,_,_,e⟩:=x; exact O9 e
 | tup xs=>obtain ⟨_,_,_,p⟩:=x; exact p.lt
 | dK kvs=>obtain ⟨_,_,_,_,o,_,_,e,_⟩:=x; exact O9 e
 | dT kvs=>obtain ⟨_,_,_,_,o,_,_,e,_⟩:=x; exact O9 e
 | set S n=>obtain ⟨o,_,_,_,e,_⟩:=x; exact O9 e
 | ins C dx fs=>obtain ⟨_,_,_,e,_⟩:=x; exact O9 e
 | own y=>obtain ⟨_,e⟩:=x; exact O9 e
 | xd fs=>obtain ⟨_,⟨_,_,_,e,_⟩,_⟩:=x; exact O9 e
 | rng lo hi=>obtain ⟨_,_,_,e⟩:=x; exact O9 e
 | frz ob u=>obtain ⟨e,_⟩:=x; exact O9 e
 | tbl ps=>exact O9 (show h.get? a=some _ from x)
 | met f y=>exact O9 (show h.get? a=some _ from x)
 | ext q=>obtain ⟨_,⟨_,e⟩,_⟩:=x; exact O9 e
theorem Paired.mapP {α β:Type} {F G:α->β->Prop}:∀ {B:List α} {q:List β},az F B q->(∀ a b,F a b->G a b)->az G B q
 | _,_,.nil,_=>.nil
 | _,_,.cons r t,f=>.cons (f _ _ r) (Paired.mapP t f)
theorem ObjOk.stay (x:ObjOk P w H h a o) (k:∀ b u,(b=a\/H b=some (.own a))->h.get? b=some u->h'.get? b=some u)
  (J:∀ b,H b=some (.own a)->H' b=some (.own a)) (I:∀ b xs,H b=some (.tup xs)->H' b=some (.tup xs)):ObjOk P w H' h' a o:=by
 induction o with
 | lst xs=>obtain ⟨z,its,n,r,e⟩:=x; exact ⟨z,its,n,r,k _ _ (.inl rfl) e⟩
 | tup xs=>obtain ⟨z,its,r,ob,e,c⟩:=x; exact ⟨z,its,r,ob,k _ _ (.inl rfl) e,c⟩
 | dK kvs=>obtain ⟨z,y,vs,r,ob,es,B,e,c⟩:=x; exact ⟨z,y,vs,r,ob,es,B,k _ _ (.inl rfl) e,c⟩
 | dT kvs=>
  obtain ⟨z,y,xs,r,ob,es,B,e,c⟩:=x;exact ⟨z,y,xs,Paired.mapP r fun p q z=>⟨z.1,I _ _ z.2.1,z.2.2⟩,ob,es,B,k _ _ (.inl rfl) e,c⟩
 | set S n=>obtain ⟨ob,es,B,t,e,c⟩:=x; exact ⟨ob,es,B,t,k _ _ (.inl rfl) e,c⟩
 | ins C dx fs=>
  obtain ⟨d,z,ne,e,mA,⟨G,es,B,e2,c⟩,r⟩:=x;exact ⟨J _ d,z,ne,k _ _ (.inl rfl) e,mA,⟨G,es,B,k _ _ (.inr d) e2,c⟩,r⟩
 | own y=>obtain ⟨ob,e⟩:=x; exact ⟨ob,k _ _ (.inl rfl) e⟩
 | xd fs=>obtain ⟨mA,⟨G,es,B,e,c⟩,r⟩:=x; exact ⟨mA,⟨G,es,B,k _ _ (.inl rfl) e,c⟩,r⟩
 | rng lo hi=>obtain ⟨t,u,v,e⟩:=x; exact ⟨t,u,v,k _ _ (.inl rfl) e⟩
 | frz ob u O=>obtain ⟨e,q⟩:=x; exact ⟨k _ _ (.inl rfl) e,O q⟩
 | tbl ps=>
  have e:h.get? a=some { cls:=.none,data:=.fields ps }:=x;show h'.get? a=some { cls:=.none,data:=.fields ps };exact k a _ (.inl rfl) e
 | met f y=>
  have e:h.get? a=some (PySem.W.methodObj (.ref f) (.ref y)):=x;show h'.get? a=some (PySem.W.methodObj (.ref f) (.ref y));exact k a _ (.inl rfl) e
 | ext U=>obtain ⟨p,⟨o,e⟩,st⟩:=x; exact ⟨st _ _ p fun o q=>k _ _ (.inl rfl) q,⟨o,k _ _ (.inl rfl) e⟩,st⟩
theorem HOk.lt (x:HOk P w H h) (e:H a=some o):a < h.objs.size:=(x a o e).lt
theorem HOk.fresh (x:HOk P w H h) (e:h.objs.size<=a):H a=none:=by
 cases q:H a with
 | none=>rfl
 | some u=>exact absurd (D3 (x.lt q) e) (Nat.lt_irrefl _)
theorem HOk.kept (x:HOk P w H h) (k:∀ b u,h.get? b=some u->h'.get? b=some u):HOk P w H h':=fun a o e=>
 (x a o e).stay (fun b u _ q=>k b u q) (fun _ q=>q) fun _ _ q=>q
theorem HOk.laid (x:HOk P w H h) (k:∀ b u,h.get? b=some u->h'.get? b=some u) (hp:h.objs.size<=a) (new:ObjOk P w (upd H a o) h' a o):HOk P w (upd H a o) h':=fun b u e=>by
 have G:=x.fresh hp
 by_cases B:b=a
 ·subst B; rw [Qj] at e; cases e; exact new
 ·rw [Qb B] at e;exact (x b u e).stay (fun c v _ q=>k c v q) (fun c q=>by rw [Qb (Qe q G)]; exact q) fun c xs q=>by rw [Qb (Qe q G)]; exact q
end
def Rd (H:Hp) (a:aA) (u:HO):Prop:=H a=some u\/∃ o,H a=some (.frz o u)
theorem Rd.ok {w:aL} {h:Heap} {u:HO} (r:Rd H a u) (x:HOk P w H h):ObjOk P w H h a u:=by
 rcases r with r | ⟨o,r⟩
 ·exact x a u r
 ·obtain ⟨_,q⟩:=x a _ r;exact q
def Mut:Option HO->Prop
 | some (.lst _)=>True
 | some (.dK _)=>True
 | some (.dT _)=>True
 | some (.set _ _)=>True
 | some (.ins _ _ _)=>True
 | some (.ext _)=>True
 | _=>False
variable {e:aA} {o':HO}
section
variable {w:aL} {h:Heap} {x:aA}
theorem HOk.write (ok:HOk P w H h) (U:Mut (H x)) (Z:e=x\/H e=some (.own x)) (k:∀ b u,b≠e->h.get? b=some u->h'.get? b=some u) (Y:∃ u,h'.get? e=some u)
  (new:ObjOk P w (upd H x o') h' x o'):HOk P w (upd H x o') h':=fun b u q=>by
 have G:∀ c y,H c=some (.own y)->c≠x:=fun c y r z=>by subst z; rw [r] at U; exact U
 have I:∀ c xs,H c=some (.tup xs)->c≠x:=fun c xs r z=>by subst z; rw [r] at U; exact U
 by_cases O:b=x
 ·subst O; rw [Qj] at q; cases q; exact new
 ·rw [Qb O] at q
  by_cases B:b=e
  ·have q':H b=some (.own x):=by
    rcases Z with z | z
    ·exact absurd (B.trans z) O
    ·rw [B]; exact z
   rw [q] at q'; cases q';obtain ⟨v,hv⟩:=Y;exact ⟨v,by rw [B]; exact hv⟩
  ·refine (ok b u q).stay (fun c v J r=>k c v ?_ r) (fun c r=>by rw [Qb (G c b r)]; exact r) fun c xs r=>by rw [Qb (I c xs r)]; exact r
   rcases J with rfl | J
   ·exact B
   ·rintro rfl;rcases Z with z | z
    ·exact G c b J z
    ·rw [J] at z; cases z; exact O rfl
end
structure Un (fs ex:List aA) (H H':Hp) (h h':Heap):Prop where
 keep:∀ b o,h.get? b=some o->H b=none->b∉fs->b∉ex->h'.get? b=some o
 slot:∀ b o,h.get? b=some o->H b=none->b∈fs->b∉ex->∃ sl,h'.get? b=some { o with slots:=sl }
 free:∀ b o,h.get? b=some o->H b=none->b∉ex->H' b=none
 there:∀ b o,h.get? b=some o->b∉ex->∃ o',h'.get? b=some o'
 tups:∀ b xs,H b=some (.tup xs)->H' b=some (.tup xs)
 frzs:∀ b o u,H b=some (.frz o u)->H' b=some (.frz o u)
 tbls:∀ b ps,H b=some (.tbl ps)->∃ more,H' b=some (.tbl (ps ++ more))
variable {fs' ex ex':List aA} {H1 H2:Hp} {h1 h2:Heap}
section
variable {fs:List aA} {h:Heap} {x:aA}
theorem Un.any (u:Un fs ex H H1 h h1) {ob:Obj} (q:h.get? b=some ob) (n:H b=none) (G:b∉ex):∃ sl,h1.get? b=some { ob with slots:=sl }:=by
 by_cases B:b∈fs
 ·exact u.slot b ob q n B G
 ·exact ⟨ob.slots,u.keep b ob q n B G⟩
theorem Un.kept (k:∀ b u,h.get? b=some u->h'.get? b=some u):Un fs ex H H h h':=
 ⟨fun b ob q _ _ _=>k b ob q,fun b ob q _ _ _=>⟨ob.slots,k b ob q⟩,fun _ _ _ n _=>n,fun b ob q _=>⟨ob,k b ob q⟩,fun _ _ q=>q,fun _ _ _ q=>q,fun _ ps q=>⟨#[],by rw [q]; simp⟩⟩
theorem Un.refl:Un fs ex H H h h:=Un.kept fun _ _ q=>q
theorem Un.laid (k:∀ b u,h.get? b=some u->h'.get? b=some u) (hp:h.objs.size<=a) (B:H a=none):Un fs ex H (upd H a o) h h' where
 keep:=fun b u q _ _ _=>k b u q
 slot:=fun b u q _ _ _=>⟨u.slots,k b u q⟩
 free:=fun b u q n _=>by rw [Qb (E9 (D3 (O9 q) hp))]; exact n
 there:=fun b u q _=>⟨u,k b u q⟩
 tups:=fun b xs q=>by rw [Qb (Qe q B)]; exact q
 frzs:=fun b u xs q=>by rw [Qb (Qe q B)]; exact q
 tbls:=fun b ps q=>⟨#[],by rw [Qb (Qe q B),q]; simp⟩
theorem Un.write (G:Mut (H x)) (Y:e=x\/H e=some (.own x)) (k:∀ b u,b≠e->h.get? b=some u->h'.get? b=some u) (I:∃ u,h'.get? e=some u):Un fs ex H (upd H x o) h h':=by
 have O:∀ b,H b=none->b≠x:=fun b n z=>by subst z; rw [n] at G; exact G
 have U:∀ b,H b=none->b≠e:=fun b n z=>by
  subst z;rcases Y with r | r
  ·exact O b n r
  ·rw [n] at r; cases r
 have J:∀ b u,H b=some u->¬ Mut (some u)->b≠x:=fun b u q nm z=>by subst z; rw [q] at G; exact nm G
 refine ⟨fun b u q n _ _=>k b u (U b n) q,fun b u q n _ _=>⟨u.slots,k b u (U b n) q⟩,fun b u q n _=>by rw [Qb (O b n)]; exact n,fun b u q _=>?_,
  fun b xs q=>by rw [Qb (J b _ q fun z=>z)]; exact q,fun b u xs q=>by rw [Qb (J b _ q fun z=>z)]; exact q,fun b ps q=>⟨#[],by rw [Qb (J b _ q fun z=>z),q]; simp⟩⟩
 by_cases B:b=e
 ·subst B; exact I
 ·exact ⟨u,k b u B q⟩
end
def trk (h:Heap) (H:Hp):List aA:=(List.range h.objs.size).filter fun a=>(H a).isSome
def Q9i (h:Heap) (H:Hp):Heap:=PySem.W.hideAll h (trk h H)
theorem Qg8 (h:Heap) (H:Hp):(Q9i h H).objs.size=h.objs.size:=PySem.W.hideAll_size _ _
theorem Qjg {h:Heap} {o:Obj} (e:h.get? b=some o) (n:H b=none):(Q9i h H).get? b=some o:=
 PySem.W.hideAll_get _ e fun B=>by
  have q:(H b).isSome=true:=(List.mem_filter.mp B).2;rw [n] at q; simp at q
theorem Qp0 {h:Heap} {o:Obj} (e:(Q9i h H).get? b=some o):h.get? b=some o/\H b=none:=by
 have B:h.get? b=some o:=PySem.W.of_hideAll (trk h H) e;refine ⟨B,?_⟩;cases q:H b with
 | none=>rfl
 | some x=>
  have G:b∈trk h H:=List.mem_filter.mpr ⟨E6.mpr (O9 B),by simp [q]⟩;have z:(Q9i h H).get? b=none:=PySem.W.hideAll_none (trk h H) G;rw [z] at e; cases e
def Qq8 (g h:Heap) (L:aA):List (aA × Obj):=(List.range h.objs.size).filterMap fun a=>if a=L\/(g.get? a).isSome=true then none else (h.get? a).map fun o=>(a,o)
def rest (g h:Heap) (L d:aA):List (aA × Obj):=(Qq8 g h L).filter fun p=>decide (p.1≠d)
structure Mod (K:PySem.W.Frag) (mg:Str->Option aB) (base:Heap):Prop where
 kin:K.In base
 glob:base.Ns aS mg
 blt:∃ mb,base.Ns builtinsNs mb/\∀ x:Str,x≠"__name__" -> mb x=aZ x
 nolimit:base.NoLimit
structure Cx where
 prog:aN
 w:aL
 K:PySem.W.Frag
 mg:Str->Option aB
 base:Heap
 A:aQ
 N:List Str
 s₀:aC
 H₀:Hp
 env:Env
 outer:List Env
 stack:List Env
 ex:List aA
 fn:Str->Bool
 calm:Bool
 pn:List (aA × Obj)
 xe:aB->aC->Prop
def frs (l:List Env):List aA:=l.filterMap (·.frame)
abbrev Cx.fs (X:Cx):List aA:=frs X.outer
def Vis (sc:Scope) (x:Str):Prop:=sc.names.lookup x=some .local\/sc.names.lookup x=some .cell\/sc.names.lookup x=some .free
def Loc (sc:Scope) (x:Str):Prop:=sc.names.lookup x=some .local\/sc.names.lookup x=some .cell
def Qxr (env:Env) (h:Heap) (m:Str->Option aB) (x:Str) (u:aB):Prop:=
 (env.kindOf x=some .local/\m x=some u)\/((env.kindOf x=some .cell\/env.kindOf x=some .free)/\∃ c,env.cells.lookup x=some c/\h.IsCell c (some u))
structure Cx.Ok (X:Cx):Prop where
 mod:Mod X.K X.mg X.base
 kind:X.env.scope.kind=.function
 glob:X.env.globals=aS
 blt:X.env.builtins=builtinsNs
 above:X.s₀.heap.objs.size<=X.env.locals
 inj:∀ x y c,X.env.cells.lookup x=some c->X.env.cells.lookup y=some c->x=y
 has:∀ x,(X.env.kindOf x=some .cell\/X.env.kindOf x=some .free)->∃ c,X.env.cells.lookup x=some c
 cab:∀ x c,X.fn x=true->X.env.cells.lookup x=some c->X.s₀.heap.objs.size<=c
 hd:X.calm=true->X.A.handled=none
 frames:X.A.frames=some X.stack
 stk:X.stack=X.outer\/(X.stack=X.env :: X.outer/\X.env.frame=some X.env.locals)
 exf:∀ b∈X.ex,b≠X.env.locals/\∀ x c,X.env.cells.lookup x=some c->c≠b
 bs:∀ b o,X.base.get? b=some o->X.s₀.heap.get? b=some o/\X.H₀ b=none
 bsz:X.base.objs.size<=X.s₀.heap.objs.size
 noex:∀ b o,X.base.get? b=some o->b∉X.ex
 exfs:∀ b∈X.ex,b∉X.fs
 funs:X.s₀.heap.FunFrames X.base X.outer
 frf:∀ b∈X.fs,X.H₀ b=none
structure Inv (X:Cx) (pins:List (aA × Obj)) (σ:List (Option V)) (H:Hp) (s:aC):Prop where
 ok:X.Ok
 os:s.os=X.s₀.os
 bare:AllBare s.gens
 base:Un X.fs X.ex X.H₀ H X.s₀.heap s.heap
 loc:∃ m,s.heap.Ns X.env.locals m/\∀ (i:Nat) (x:Str) (v:V),X.N[i]?=some x->σ[i]?=some (some v)->Vis X.env.scope x->∃ u,RelV v u/\Qxr X.env s.heap m x u
 cell:∀ x c,X.env.cells.lookup x=some c->∃ v,s.heap.IsCell c v
 free:H X.env.locals=none
 freeC:∀ x c,X.env.cells.lookup x=some c->H c=none
 pin:∀ p∈X.pn ++ pins,s.heap.get? p.1=some p.2/\H p.1=none/\p.1≠X.env.locals/\p.1∉X.fs/\∀ v,p.2.data≠.cell v
 hok:HOk X.prog X.w H s.heap
 len:σ.length=X.N.length
variable {X:Cx} {pins:List (aA × Obj)} {σ:List (Option V)} {s:aC}
theorem Cx.Ok.nofr (ok:X.Ok) {o:Obj} (e:X.base.get? b=some o):b∉X.fs:=fun q=>by
 have:=(ok.funs.mem q).1;rw [e] at this; cases this
theorem Inv.bs (I:Inv X pins σ H s):∀ b o,X.base.get? b=some o->s.heap.get? b=some o/\H b=none:=fun b o e=>
 ⟨I.base.keep b o (I.ok.bs b o e).1 (I.ok.bs b o e).2 (I.ok.nofr e) (I.ok.noex b o e),I.base.free b o (I.ok.bs b o e).1 (I.ok.bs b o e).2 (I.ok.noex b o e)⟩
theorem Inv.bk (I:Inv X pins σ H s):∀ b o,X.base.get? b=some o->s.heap.get? b=some o:=fun b o e=>(I.bs b o e).1
theorem Inv.mod (I:Inv X pins σ H s):Mod X.K X.mg X.base:=I.ok.mod
theorem Inv.kIn (I:Inv X pins σ H s):X.K.In s.heap:=I.ok.mod.kin.keeps I.bk
theorem Inv.lt (I:Inv X pins σ H s):X.env.locals < s.heap.objs.size:=let ⟨_,q,_⟩:=I.loc; q.lt
theorem Inv.sz (I:Inv X pins σ H s):X.s₀.heap.objs.size<=s.heap.objs.size:=F0 I.ok.above (E8 I.lt)
theorem Inv.nofs (I:Inv X pins σ H s) (h:s.heap.objs.size<=a):a∉X.fs:=fun q=>by
 obtain ⟨_,o,B,_⟩:=I.ok.funs.mem q;exact absurd (D3 (O9 B) (F0 I.sz h)) (Nat.lt_irrefl _)
theorem Inv.cne (I:Inv X pins σ H s):∀ x c,X.env.cells.lookup x=some c->c≠X.env.locals:=fun x c e z=>by
 obtain ⟨v,o,G,hd⟩:=I.cell x c e;obtain ⟨m,⟨o',es,J,q,B,_⟩,_⟩:=I.loc;rw [z,q] at G; cases G; rw [B] at hd; cases hd
theorem Inv.funs (I:Inv X pins σ H s):s.heap.FunFrames X.base X.outer:=by
 have all:∀ (l:List Env),(∀ b∈frs l,b∈X.fs)->X.s₀.heap.FunFrames X.base l->s.heap.FunFrames X.base l:=by
  intro l
  induction l with
  | nil=>intro _ _; trivial
  | cons env r U=>
   intro hs hl;obtain ⟨Y,⟨L,o,B,J,O,hd⟩,hr⟩:=hl;have G:L∈X.fs:=hs L (by unfold frs; rw [List.filterMap_cons,B]; exact D5);obtain ⟨sl,e⟩:=I.base.slot L o O (I.ok.frf L G) G fun z=>I.ok.exfs L z G
   exact ⟨Y,⟨L,_,B,J,e,hd⟩,U (fun b q=>hs b (by unfold frs; rw [List.filterMap_cons,B]; exact D1 _ q)) hr⟩
 exact all X.outer (fun _ q=>q) I.ok.funs
theorem Inv.stack (I:Inv X pins σ H s):s.heap.FunFrames X.base X.stack:=by
 rcases I.ok.stk with e | ⟨e,q⟩
 ·rw [e]; exact I.funs
 ·rw [e];obtain ⟨m,B,_⟩:=I.loc;refine .cons (by rw [I.ok.kind]; decide) q B ?_ I.funs;exact Heap.get?_none_of_le (F0 I.ok.bsz I.ok.above)
theorem Inv.stkSub (I:Inv X pins σ H s):∀ b∈frs X.stack,b∈X.env.locals :: X.fs:=fun b q=>by
 rcases I.ok.stk with e | ⟨e,B⟩
 ·rw [e] at q; exact D1 _ q
 ·rw [e] at q;unfold frs at q;rw [List.filterMap_cons,B] at q;exact q
theorem Inv.stkFree (I:Inv X pins σ H s):∀ b∈frs X.stack,H b=none:=fun b q=>by
 rcases D4.mp (I.stkSub b q) with e | q
 ·rw [e]; exact I.free
 ·obtain ⟨_,o,B,_⟩:=I.ok.funs.mem q;exact I.base.free b o B (I.ok.frf b q) fun z=>I.ok.exfs b z q
theorem Inv.step {g':Array GenState} {t':Nat} {d':Drawn} {ch:List aA} (I:Inv X pins σ H s)
  (O:∀ b∈ch,(b∈X.ex\/X.s₀.heap.objs.size<=b)/\b≠X.env.locals/\(∀ x c,X.env.cells.lookup x=some c->c≠b)/\∀ p∈X.pn ++ pins,p.1≠b)
  (keep:∀ b o,b≠X.env.locals->b∉X.fs->b∉ch->s.heap.get? b=some o->H b=none->h'.get? b=some o)
  (slot:∀ b o,b≠X.env.locals->b∈X.fs->b∉ch->s.heap.get? b=some o->H b=none->∃ sl,h'.get? b=some { o with slots:=sl }) (free:∀ b o,b∉ch->s.heap.get? b=some o->H b=none->H' b=none)
  (there:∀ b o,b∉ch->s.heap.get? b=some o->∃ o',h'.get? b=some o')
  (tups:∀ b xs,H b=some (.tup xs)->H' b=some (.tup xs)) (frzs:∀ b o u,H b=some (.frz o u)->H' b=some (.frz o u)) (tbls:∀ b ps,H b=some (.tbl ps)->∃ more,H' b=some (.tbl (ps ++ more)))
  (ns:∀ m,s.heap.Ns X.env.locals m->h'.Ns X.env.locals m) (hok:HOk X.prog X.w H' h') (hg:AllBare g') :
  Inv X pins σ H' { s with heap:=h',gens:=g',drawn:=d',toks:=t' }:=by
 have a2:∀ b o,X.s₀.heap.get? b=some o->b≠X.env.locals:=fun b o e=>E9 (D3 (O9 e) I.ok.above)
 have U:∀ b o,X.s₀.heap.get? b=some o->b∉X.ex->b∉ch:=fun b o e B Y=>by
  rcases (O b Y).1 with z | z
  ·exact B z
  ·exact absurd (D3 (O9 e) z) (Nat.lt_irrefl _)
 have J:∀ x c,X.env.cells.lookup x=some c->∀ v,s.heap.IsCell c v->h'.IsCell c v:=fun x c e v ⟨o,Z,hd⟩=>by
  have G:c∉ch:=fun z=>(O c z).2.2.1 x c e rfl
  by_cases hc:c∈X.fs
  ·obtain ⟨sl,q⟩:=slot c o (I.cne x c e) hc G Z (I.freeC x c e);exact ⟨_,q,hd⟩
  ·exact ⟨o,keep c o (I.cne x c e) hc G Z (I.freeC x c e),hd⟩
 refine ⟨I.ok,I.os,hg,⟨fun b o e n Y B=>?_,fun b o e n Y B=>?_,fun b o e n B=>?_,fun b o e B=>?_,fun b xs e=>tups b xs (I.base.tups b xs e),fun b o xs e=>frzs b o xs (I.base.frzs b o xs e),fun b ps e=>?_⟩,?_,fun x c e=>?_,?_,fun x c e=>?_,fun p hp=>?_,hok,I.len⟩
 ·exact keep b o (a2 b o e) Y (U b o e B) (I.base.keep b o e n Y B) (I.base.free b o e n B)
 ·obtain ⟨sl,e1⟩:=I.base.slot b o e n Y B;obtain ⟨a3,e2⟩:=slot b _ (a2 b o e) Y (U b o e B) e1 (I.base.free b o e n B);exact ⟨a3,e2⟩
 ·obtain ⟨o',e1⟩:=I.base.there b o e B;exact free b o' (U b o e B) e1 (I.base.free b o e n B)
 ·obtain ⟨o',e1⟩:=I.base.there b o e B;exact there b o' (U b o e B) e1
 ·obtain ⟨m1,e1⟩:=I.base.tbls b ps e;obtain ⟨m2,e2⟩:=tbls b _ e1;exact ⟨m1 ++ m2,by rw [e2,Array.append_assoc]⟩
 ·obtain ⟨m,hn,hl⟩:=I.loc;refine ⟨m,ns m hn,fun i x v e1 e2 e3=>?_⟩;obtain ⟨u,r,l⟩:=hl i x v e1 e2 e3;refine ⟨u,r,?_⟩;rcases l with l | ⟨k,c,e,z⟩
  ·exact .inl l
  ·exact .inr ⟨k,c,e,J x c e _ z⟩
 ·obtain ⟨v,z⟩:=I.cell x c e;exact ⟨v,J x c e v z⟩
 ·obtain ⟨m,⟨o,_,_,Z,_⟩,_⟩:=I.loc;exact free _ o (fun z=>(O _ z).2.1 rfl) Z I.free
 ·obtain ⟨v,o,Z,hd⟩:=I.cell x c e;exact free c o (fun z=>(O c z).2.2.1 x c e rfl) Z (I.freeC x c e)
 ·obtain ⟨e,n,ne,nf,d⟩:=I.pin p hp;have G:p.1∉ch:=fun z=>(O p.1 z).2.2.2 p hp rfl
  exact ⟨keep p.1 p.2 ne nf G e n,free p.1 p.2 G e n,ne,nf,d⟩
theorem Inv.un (I:Inv X pins σ H s) (u:Un X.fs [] H H' s.heap h') (hok:HOk X.prog X.w H' h'):Inv X pins σ H' { s with heap:=h',toks:=t' }:=by
 obtain ⟨m,⟨o,es,ep,O,r⟩,_⟩:=id I.loc;obtain ⟨sl,Y⟩:=u.any O I.free (by simp);exact I.step (g':=s.gens) (d':=s.drawn) (ch:=[]) (fun _ z=>nomatch z) (fun b o _ G _ e n=>u.keep b o e n G (by simp)) (fun b o _ G _ e n=>u.slot b o e n G (by simp)) (fun b o _ e n=>u.free b o e n (by simp)) (fun b o _ e=>u.there b o e (by simp)) u.tups u.frzs u.tbls (fun m' U=>by
  obtain ⟨o',J,B,q,Z⟩:=U;rw [O] at q; cases q;exact ⟨_,J,B,Y,Z⟩) hok I.bare
theorem Inv.call {t':Nat} {d':Drawn} (I:Inv X pins σ H s) (u:Un (frs X.stack) ch H H' s.heap h') (hok:HOk X.prog X.w H' h') (hg:AllBare g')
  (G:∀ b∈ch,(b∈X.ex\/X.s₀.heap.objs.size<=b)/\b≠X.env.locals/\(∀ x c,X.env.cells.lookup x=some c->c≠b)/\∀ p∈X.pn ++ pins,p.1≠b) :
  Inv X pins σ H' { s with heap:=h',gens:=g',drawn:=d',toks:=t' }:=by
 obtain ⟨m,⟨o,es,ep,Y,r⟩,_⟩:=id I.loc;obtain ⟨sl,O⟩:=u.any Y I.free fun z=>(G _ z).2.1 rfl
 exact I.step (ch:=ch) G (fun b o O hb q e n=>u.keep b o e n (fun z=>(D4.mp (I.stkSub b z)).elim O hb) q) (fun b o _ _ q e n=>u.any e n q) (fun b o q e n=>u.free b o e n q) (fun b o q e=>u.there b o e q) u.tups u.frzs u.tbls (fun m' Z=>by
  obtain ⟨o',U,J,B,r'⟩:=Z;rw [Y] at B; cases B;exact ⟨_,U,J,O,r'⟩) hok hg
theorem Inv.turned {t':Nat} (I:Inv X pins σ H s) (k:∀ b o,b≠it->s.heap.get? b=some o->h'.get? b=some o) (U:H it=none) (J:it≠X.env.locals)
  (h1:it∈X.ex\/X.s₀.heap.objs.size<=it) (h2:∀ x c,X.env.cells.lookup x=some c->c≠it) (h3:∀ p∈X.pn ++ pins,p.1≠it):Inv X pins σ H { s with heap:=h',toks:=t' }:=by
 have G:∀ b u,H b=some u->b≠it:=fun b u e z=>by rw [z,U] at e; cases e
 refine I.step (g':=s.gens) (d':=s.drawn) (ch:=[it]) (fun b hb=>?_) (fun b o _ _ B e _=>k b o (fun z=>B (by simp [z])) e) (fun b o _ _ B e _=>⟨o.slots,k b o (fun z=>B (by simp [z])) e⟩) (fun _ _ _ _ n=>n)
  (fun b o B e=>⟨o,k b o (fun z=>B (by simp [z])) e⟩) (fun _ _ e=>e) (fun _ _ _ e=>e) (fun b ps e=>⟨#[],by rw [e]; simp⟩) (fun m Z=>?_) (fun b u e=>?_) I.bare
 ·have e:b=it:=by simpa using hb
  subst e;exact ⟨h1,J,h2,h3⟩
 ·obtain ⟨o,es,O,Y,r⟩:=Z;exact ⟨o,es,O,k _ o (Ne.symm J) Y,r⟩
 ·refine (I.hok b u e).stay (fun c v B q=>k c v ?_ q) (fun _ q=>q) fun _ _ q=>q
  rcases B with z | z
  ·rw [z]; exact G b u e
  ·exact G c _ z
theorem Inv.tok (I:Inv X pins σ H s) (t:Nat):Inv X pins σ H { s with toks:=t }:=I.un (h':=s.heap) (t':=t) Un.refl I.hok
theorem Inv.kept (I:Inv X pins σ H s) (k:∀ b u,s.heap.get? b=some u->h'.get? b=some u):Inv X pins σ H { s with heap:=h',toks:=t' }:=I.un (Un.kept k) (I.hok.kept k)
theorem Inv.laid {t':Nat} (I:Inv X pins σ H s) (k:∀ b u,s.heap.get? b=some u->h'.get? b=some u) (hp:s.heap.objs.size<=a) (new:ObjOk X.prog X.w (upd H a o) h' a o) :
  Inv X pins σ (upd H a o) { s with heap:=h',toks:=t' }:=I.un (Un.laid k hp (I.hok.fresh hp)) (I.hok.laid k hp new)
theorem Inv.write {x:aA} {o:HO} {t':Nat} (I:Inv X pins σ H s) (B:Mut (H x)) (G:e=x\/H e=some (.own x)) (k:∀ b u,b≠e->s.heap.get? b=some u->h'.get? b=some u) (q:∃ u,h'.get? e=some u)
  (new:ObjOk X.prog X.w (upd H x o) h' x o):Inv X pins σ (upd H x o) { s with heap:=h',toks:=t' }:=I.un (Un.write B G k q) (I.hok.write B G k q new)
theorem Inv.pins_of {q:List (aA × Obj)} (I:Inv X pins σ H s) (h:∀ p∈q,s.heap.get? p.1=some p.2/\H p.1=none/\p.1≠X.env.locals/\p.1∉X.fs/\∀ v,p.2.data≠.cell v):Inv X q σ H s:=
 ⟨I.ok,I.os,I.bare,I.base,I.loc,I.cell,I.free,I.freeC,fun p hp=>(F1.mp hp).elim (fun z=>I.pin p (F7 _ z)) (h p),I.hok,I.len⟩
theorem Q5q {N:List Str} (q:N.Nodup) {i j:Nat} {x:Str} (a:N[i]?=some x) (b:N[j]?=some x):i=j:=by
 obtain ⟨h1,e1⟩:=O0.mp a;obtain ⟨h2,e2⟩:=O0.mp b;exact (List.getElem_inj q).mp (e1.trans e2.symm)
theorem Q7q {M:Model} {A:aQ} {E:aB->aC->Prop} {i:Nat} {x:Str} {Q:Unit->aC->Prop} (I:Inv X pins σ H s) (hN:X.N.Nodup) (hi:X.N[i]?=some x) (J:Loc X.env.scope x) (r:RelV v u)
  (h:∀ s',Inv X pins (σ.set i (some v)) H s'->(∃ a,Heap.SameBut a s.heap s'.heap/\(a=X.env.locals\/X.env.cells.lookup x=some a))->Q () s') (hf:X.fn x=true\/X.env.scope.names.lookup x=some .local:=by first | exact .inl rfl | exact .inr rfl | assumption):aI M A (storeName X.env x u) Q E s:=by
 obtain ⟨m,hn,hl⟩:=id I.loc;have a6:(X.env.scope.kind == .class || (X.env.scope.kind == .module && X.env.locals != X.env.globals))=false:=by rw [I.ok.kind]; rfl
 have U:i < σ.length:=by rw [I.len]; exact (O0.mp hi).1
 have cne:=I.cne;have B:∀ {a:aA} {h':Heap},(∃ o,s.heap.get? a=some o/\H a=none)->Heap.SameBut a s.heap h'->HOk X.prog X.w H h':=fun {a h'} ha hs b ob e=>by
  obtain ⟨_,_,O⟩:=ha;refine (I.hok b ob e).stay (fun c w' G q=>(hs.2 c ?_).trans q) (fun _ q=>q) fun _ _ q=>q
  rintro rfl;rcases G with rfl | G
  ·rw [O] at e; cases e
  ·rw [O] at G; cases G
 rcases J with Y | Y
 ·refine wpAny_storeName_local Y hn (fun h' a8 hs=>?_) a6;obtain ⟨oL,_,_,a9,_⟩:=id hn;refine h _ ⟨I.ok,I.os,I.bare,⟨fun b o e n hb J=>?_,fun b o e n hb J=>?_,I.base.free,fun b o e J=>?_,I.base.tups,I.base.frzs,I.base.tbls⟩,⟨_,a8,fun j y v' e1 e2 e3=>?_⟩,fun y c e=>?_,I.free,I.freeC,fun p hp=>?_,B ⟨oL,a9,I.free⟩ hs,by simpa using I.len⟩ ⟨_,hs,.inl rfl⟩
  ·exact (hs.2 b (E9 (D3 (O9 e) I.ok.above))).trans (I.base.keep b o e n hb J)
  ·obtain ⟨sl,e1⟩:=I.base.slot b o e n hb J;exact ⟨sl,(hs.2 b (E9 (D3 (O9 e) I.ok.above))).trans e1⟩
  ·obtain ⟨o',e1⟩:=I.base.there b o e J;exact ⟨o',(hs.2 b (E9 (D3 (O9 e) I.ok.above))).trans e1⟩
  ·by_cases Z:j=i
   ·subst Z;rw [hi] at e1; cases e1;rw [E3 U] at e2;cases e2;exact ⟨u,r,.inl ⟨Y,by simp⟩⟩
   ·rw [O7 (Ne.symm Z)] at e2;obtain ⟨u',r',q⟩:=hl j y v' e1 e2 e3;refine ⟨u',r',?_⟩;rcases q with ⟨k,e⟩ | ⟨k,c,e,z⟩
    ·refine .inl ⟨k,?_⟩;have:y≠x:=fun e=>Z (Q5q hN e1 (e ▸ hi))
     simp [this,e]
    ·exact .inr ⟨k,c,e,z.sameBut hs (cne y c e)⟩
  ·obtain ⟨w',z⟩:=I.cell y c e;exact ⟨w',z.sameBut hs (cne y c e)⟩
  ·obtain ⟨e,n,ne,nf,d⟩:=I.pin p hp;exact ⟨(hs.2 p.1 ne).trans e,n,ne,nf,d⟩
 ·have a2:X.fn x=true:=by
   rcases hf with z | z
   ·exact z
   ·rw [z] at Y; cases Y
  obtain ⟨c,G⟩:=I.ok.has x (.inl Y);obtain ⟨w',z⟩:=I.cell x c G;refine wpAny_storeName_cell I.ok.kind Y G z (fun h' a5 hs=>?_);obtain ⟨oc,a3,a7⟩:=id z;refine h { s with heap:=h' } ⟨I.ok,I.os,I.bare,⟨fun b o e n hb J=>?_,fun b o e n hb J=>?_,I.base.free,fun b o e J=>?_,I.base.tups,I.base.frzs,I.base.tbls⟩,⟨m,hn.sameBut hs (Ne.symm (cne x c G)),fun j y v' e1 e2 e3=>?_⟩,fun y c' e=>?_,I.free,I.freeC,fun p hp=>?_,B ⟨oc,a3,I.freeC x c G⟩ hs,by simpa using I.len⟩ ⟨c,hs,.inr G⟩
  ·exact (hs.2 b (E9 (D3 (O9 e) (I.ok.cab x c a2 G)))).trans (I.base.keep b o e n hb J)
  ·obtain ⟨sl,e1⟩:=I.base.slot b o e n hb J;exact ⟨sl,(hs.2 b (E9 (D3 (O9 e) (I.ok.cab x c a2 G)))).trans e1⟩
  ·obtain ⟨o',e1⟩:=I.base.there b o e J;exact ⟨o',(hs.2 b (E9 (D3 (O9 e) (I.ok.cab x c a2 G)))).trans e1⟩
  ·by_cases Z:j=i
   ·subst Z;rw [hi] at e1; cases e1;rw [E3 U] at e2;cases e2;exact ⟨u,r,.inr ⟨.inl Y,c,G,a5⟩⟩
   ·rw [O7 (Ne.symm Z)] at e2;obtain ⟨u',r',q⟩:=hl j y v' e1 e2 e3;refine ⟨u',r',?_⟩;rcases q with q | ⟨k,c',e,z'⟩
    ·exact .inl q
    ·refine .inr ⟨k,c',e,z'.sameBut hs ?_⟩;rintro rfl;exact Z (Q5q hN e1 (I.ok.inj _ _ _ e G ▸ hi))
  ·by_cases a4:c'=c
   ·subst a4; exact ⟨_,a5⟩
   ·obtain ⟨w2,z2⟩:=I.cell y c' e;exact ⟨w2,z2.sameBut hs a4⟩
  ·obtain ⟨e,n,ne,nf,d⟩:=I.pin p hp;refine ⟨(hs.2 p.1 ?_).trans e,n,ne,nf,d⟩;intro q;rw [q,a3] at e;have q':oc=p.2:=Option.some.inj e;exact d w' (by rw [<- q']; exact a7)
theorem Q1x {M:Model} {A:aQ} {E:aB->aC->Prop} {i:Nat} {x:Str} {Q:Unit->aC->Prop} (I:Inv X pins σ H s) (q:X.N.Nodup) (hi:X.N[i]?=some x) (G:Loc X.env.scope x) (r:RelV v u)
  (h:∀ s',Inv X pins (σ.set i (some v)) H s'->Q () s') (J:X.fn x=true\/X.env.scope.names.lookup x=some .local:=by first | exact .inl rfl | exact .inr rfl | assumption):aI M A (storeName X.env x u) Q E s:=
 Q7q I q hi G r (fun s' B _=>h s' B) J
theorem Inv.call' (I:Inv X pins σ H s) (B:s'.os=s.os) (u:Un (frs X.stack) ch H H' s.heap s'.heap) (hok:HOk X.prog X.w H' s'.heap) (G:AllBare s'.gens)
  (q:∀ b∈ch,(b∈X.ex\/X.s₀.heap.objs.size<=b)/\b≠X.env.locals/\(∀ x c,X.env.cells.lookup x=some c->c≠b)/\∀ p∈X.pn ++ pins,p.1≠b):Inv X pins σ H' s':=by
 obtain ⟨h',g',d',t',o'⟩:=s';have e:o'=s.os:=B;subst e;exact I.call (g':=g') (t':=t') (d':=d') u hok G q
abbrev XK:=aB->Option aA->Hp->Prop
abbrev St:=List (Option V)
abbrev VK:=V->Hp->Prop
abbrev TE:=St->Hp->VK->Prop
variable {tl:TE}
abbrev TT:=St->Hp->(Bool->Hp->Prop)->Prop
variable {tc:TT}
abbrev TA:=St->Hp->(List V->Hp->Prop)->Prop
variable {ta:TA}
structure Ends where
 nx:St->Hp->Prop
 rt:VK
 bk:St->Hp->Prop:=fun _ _=>False
 ct:St->Hp->Prop:=fun _ _=>False
abbrev TS:=Ends->St->Hp->Prop
variable {tb:TS}
def EP (X:Cx) (pins:List (aA × Obj)) (σ:St) (Q:VK) (u:aB) (s':aC):Prop:=∃ v H',Inv X pins σ H' s'/\RelV v u/\Q v H'
def TP (X:Cx) (pins:List (aA × Obj)) (σ:St) (Q:Bool->Hp->Prop) (b:Bool) (s':aC):Prop:=∃ H',Inv X pins σ H' s'/\Q b H'
def AP (X:Cx) (pins:List (aA × Obj)) (σ:St) (Q:List V->Hp->Prop) (us:List aB) (s':aC):Prop:=∃ vs H',Inv X pins σ H' s'/\Vals vs us/\Q vs H'
def SP (X:Cx) (pins:List (aA × Obj)) (D:Ends) (f:Flow) (s':aC):Prop:=
 match f with
 | .next=>∃ σ' H',Inv X pins σ' H' s'/\D.nx σ' H'
 | .brk=>∃ σ' H',Inv X pins σ' H' s'/\D.bk σ' H'
 | .cont=>∃ σ' H',Inv X pins σ' H' s'/\D.ct σ' H'
 | .ret u=>∃ v σ' H',Inv X pins σ' H' s'/\RelV v u/\D.rt v H'
def PE (X:Cx) (e:aD) (t:TE):Prop:=
 ∀ (pins:List (aA × Obj)) (s:aC) (σ:St) (H:Hp) (Q:VK),Inv X pins σ H s->t σ H Q->aI (aJ X.prog X.w) X.A (aM e X.env) (EP X pins σ Q) X.xe s
def PT (X:Cx) (e:aD) (t:TT):Prop:=
 ∀ (pins:List (aA × Obj)) (s:aC) (σ:St) (H:Hp) (Q:Bool->Hp->Prop),Inv X pins σ H s->t σ H Q->aI (aJ X.prog X.w) X.A (isTrue e X.env (aM e X.env)) (TP X pins σ Q) X.xe s
def PW (X:Cx) (e:aD) (t:TT):Prop:=
 ∀ (whole:Sem aB) (pins:List (aA × Obj)) (s:aC) (σ:St) (H:Hp) (Q:Bool->Hp->Prop),Inv X pins σ H s->t σ H Q->aI (aJ X.prog X.w) X.A (isTrue e X.env whole) (TP X pins σ Q) X.xe s
theorem PW.pt {e:aD} {t:TT} (h:PW X e t):PT X e t:=h _
def PA (X:Cx) (es:List aD) (t:TA):Prop:=
 ∀ (pos:Pos) (pins:List (aA × Obj)) (s:aC) (σ:St) (H:Hp) (Q:List V->Hp->Prop),Inv X pins σ H s->t σ H Q->aI (aJ X.prog X.w) X.A (spliced (aU pos (aO es X.env))) (AP X pins σ Q) X.xe s
def PS (X:Cx) (st:aK) (t:TS):Prop:=
 ∀ (pins:List (aA × Obj)) (s:aC) (σ:St) (H:Hp) (D:Ends),Inv X pins σ H s->t D σ H->aI (aJ X.prog X.w) X.A (exec st X.env) (SP X pins D) X.xe s
def PSs (X:Cx) (st:List aK) (t:TS):Prop:=
 ∀ (pins:List (aA × Obj)) (s:aC) (σ:St) (H:Hp) (D:Ends),Inv X pins σ H s->t D σ H->aI (aJ X.prog X.w) X.A (execs st X.env) (SP X pins D) X.xe s
theorem thn {α:Type} {t:Sem α} {Q q:α->aC->Prop} (h:aI M A t Q E s) (B:∀ a s,Q a s->q a s):aI M A t q E s:=ae h B fun _ _ x=>x
section
variable {X:Cx}
def Qre (i:Nat):TE:=fun σ H Q=>∃ v,σ[i]?=some (some v)/\Q v H
def tC (v:V):TE:=fun _ H Q=>Q v H
theorem Qih {i:Nat} {x:Str} {pos:Pos} (U:X.N[i]?=some x) (Z:Vis X.env.scope x) (hd:(x == ("__debug__" : Str))=false:=by decide) (G:(x == ("__classdict__" : Str))=false:=by decide):PE X (.Name x pos) (Qre i):=by
 intro pins s σ H Q I h;obtain ⟨v,e,h⟩:=h;obtain ⟨m,O,hl⟩:=I.loc;obtain ⟨u,r,l⟩:=hl i x v U e Z;have fin:EP X pins σ Q u s:=⟨v,H,I,r,h⟩;rcases l with ⟨B,Y⟩ | ⟨B,c,J,q⟩
 ·exact wpAny_Name (wpAny_loadName_local I.ok.kind B O Y fin) hd
 ·rcases B with B | B
  ·exact wpAny_Name (wpAny_loadName_cell I.ok.kind B J q fin) hd
  ·exact wpAny_Name (wpAny_loadName_free I.ok.kind B J q fin G) hd
theorem Qik {i j pos}:PE X (.Constant (.int i) j pos) (tC (.int i)):=fun _ _ _ H _ I h=>wpAny_Constant_int ⟨.int i,H,I.tok _,⟨_,rfl⟩,h⟩
theorem Qiq {b j pos}:PE X (.Constant (.bool b) j pos) (tC (.bl b)):=fun _ _ _ H _ I h=>Constant_bool ⟨.bl b,H,I,rfl,h⟩
theorem Qcf {j pos}:PE X (.Constant .none j pos) (tC .non):=fun _ _ _ H _ I h=>Constant_none ⟨.non,H,I,rfl,h⟩
theorem qp {x j pos}:PE X (.Constant (.str x) j pos) (tC (.str x)):=fun _ _ _ H _ I h=>Calls.Constant_str ⟨.str x,H,I.tok _,⟨_,rfl⟩,h⟩
def Gl (X:Cx) (x:Str):Prop:=X.env.kindOf x=some .globalImplicit
theorem Xu {E:aB->aC->Prop} {σ:St} {x:Str} {pos:Pos} {Q:aB->aC->Prop} (I:Inv X pins σ H s) (q:Gl X x) (B:X.mg x=some u) (h:Q u s)
  (hd:(x == ("__debug__" : Str))=false:=by decide):aI (aJ X.prog X.w) X.A (aM (.Name x pos) X.env) Q E s:=
 Calls.Name_function_global I.ok.kind q (Calls.loadGlobal_global (by rw [I.ok.glob]; exact I.mod.glob.keeps I.bk) B h) hd
theorem Q35 {E:aB->aC->Prop} {σ:St} {x:Str} {pos:Pos} {Q:aB->aC->Prop} (I:Inv X pins σ H s) (B:Gl X x) (G:X.mg x=none) (J:aZ x=some u) (h:Q u s)
  (q:x≠"__name__" := by decide) (hd:(x == ("__debug__" : Str))=false:=by decide):aI (aJ X.prog X.w) X.A (aM (.Name x pos) X.env) Q E s:=by
 obtain ⟨mb,h1,h2⟩:=I.mod.blt;exact Calls.Name_function_global I.ok.kind B (Calls.loadGlobal_builtin (by rw [I.ok.glob]; exact I.mod.glob.keeps I.bk) G (by rw [I.ok.blt]; exact h1.keeps I.bk) ((h2 x q).trans J) h) hd
theorem We {x:Str} {pos:Pos} (q:Gl X x) (B:X.mg x=some u) (r:RelV v u) (hd:(x == ("__debug__" : Str))=false:=by decide):PE X (.Name x pos) (tC v):=
 fun _ _ _ H _ I h=>Xu I q B ⟨v,H,I,r,h⟩ hd
theorem Qds {x:Str} {pos:Pos} (B:Gl X x) (G:X.mg x=none) (J:aZ x=some u) (r:RelV v u) (q:x≠"__name__" := by decide) (hd:(x == ("__debug__" : Str))=false:=by decide):PE X (.Name x pos) (tC v):=
 fun _ _ _ H _ I h=>Q35 I B G J ⟨v,H,I,r,h⟩ q hd
variable {a b:aD} {ta tb:TE} {pos:Pos}
def tB (t:TE):TT:=fun σ H Q=>t σ H fun x H1=>∃ c,x=.bl c/\Q c H1
theorem Qcb {e:aD} {t:TE} (h:PE X e t) (G:∀ B,isTrue e X.env B=(do let v <- B; standAt e.pos; aj [v] (truthy v)):=by intro _; rfl):PT X e (tB t):=by
 intro pins s σ H Q I U;refine isTrue_plain (thn (h pins s σ H _ I U) fun v s1 ⟨x,H1,O,J,q1⟩=>?_) (G _)
 obtain ⟨d,rfl,q⟩:=q1;cases J;exact ar ⟨H1,O,q⟩
variable {tA tB':TT} {rest:List aD}
def Qyv (t u:TT):TT:=fun σ H Q=>t σ H fun c H1=>if c=true then u σ H1 Q else Q false H1
def tOr (t u:TT):TT:=fun σ H Q=>t σ H fun c H1=>if c=true then Q true H1 else u σ H1 Q
def Qys (t:TT):TT:=fun σ H Q=>t σ H fun c H1=>Q (!c) H1
theorem Qn7 (q:PT X a tA):PW X (.BoolOp .And [a] pos) tA:=by
 intro B pins s σ H Q I h;refine isTrue_and (thn (q pins s σ H Q I h) fun c s1 e=>?_)
 cases c with
 | true=>exact isTrue_and_nil e
 | false=>exact e
theorem Qi3 (q:PT X a tA):PW X (.BoolOp .Or [a] pos) tA:=by
 intro B pins s σ H Q I h;refine isTrue_or (thn (q pins s σ H Q I h) fun c s1 e=>?_)
 cases c with
 | false=>exact isTrue_or_nil e
 | true=>exact e
theorem Qsi (B:PT X a tA) (J:PW X (.BoolOp .And (b :: rest) pos) tB'):PW X (.BoolOp .And (a :: b :: rest) pos) (Qyv tA tB'):=by
 intro G pins s σ H Q I h;refine isTrue_and (thn (B pins s σ H _ I h) fun c s1 ⟨H1,q,q1⟩=>?_)
 cases c with
 | true=>exact J G pins s1 σ H1 Q q q1
 | false=>exact ⟨H1,q,q1⟩
theorem Qi4 (B:PT X a tA) (J:PW X (.BoolOp .Or (b :: rest) pos) tB'):PW X (.BoolOp .Or (a :: b :: rest) pos) (tOr tA tB'):=by
 intro G pins s σ H Q I h;refine isTrue_or (thn (B pins s σ H _ I h) fun c s1 ⟨H1,q,q1⟩=>?_)
 cases c with
 | true=>exact ⟨H1,q,q1⟩
 | false=>exact J G pins s1 σ H1 Q q q1
theorem Qcc (q:PT X a tA):PT X (.UnaryOp .Not a pos) (Qys tA):=by
 intro pins s σ H Q I h;exact isTrue_not (q pins s σ H (fun c H1=>Q (!c) H1) I h)
def Qvk (ta tb:TE):TE:=fun σ H Q=>ta σ H fun x H1=>∃ c,x=.bl c/\if c=true then tb σ H1 Q else Q (.bl false) H1
def Qyr (ta tb:TE):TE:=fun σ H Q=>ta σ H fun x H1=>∃ c,x=.bl c/\if c=true then Q (.bl true) H1 else tb σ H1 Q
def Qvc (ta:TE):TE:=fun σ H Q=>ta σ H fun x H1=>∃ c,x=.bl c/\Q (.bl (!c)) H1
theorem Qst {op} {t:TE} (h:PE X a t):PE X (.BoolOp op [a] pos) t:=fun pins s σ H Q I q=>BoolOp_one (h pins s σ H Q I q)
theorem Qsw (B:PE X a ta) (J:PE X (.BoolOp .And (b :: rest) pos) tb):PE X (.BoolOp .And (a :: b :: rest) pos) (Qvk ta tb):=by
 intro pins s σ H Q I h;refine BoolOp_and (thn (B pins s σ H _ I h) fun v s1 ⟨x,H1,q,G,q1⟩=>?_)
 obtain ⟨c,rfl,q1⟩:=q1;cases G;refine ar ?_;cases c with
 | true=>exact J pins s1 σ H1 Q q q1
 | false=>exact ⟨.bl false,H1,q,rfl,q1⟩
theorem Qw4 (B:PE X a ta) (J:PE X (.BoolOp .Or (b :: rest) pos) tb):PE X (.BoolOp .Or (a :: b :: rest) pos) (Qyr ta tb):=by
 intro pins s σ H Q I h;refine BoolOp_or (thn (B pins s σ H _ I h) fun v s1 ⟨x,H1,q,G,q1⟩=>?_)
 obtain ⟨c,rfl,q1⟩:=q1;cases G;refine ar ?_;cases c with
 | false=>exact J pins s1 σ H1 Q q q1
 | true=>exact ⟨.bl true,H1,q,rfl,q1⟩
theorem Qsu (q:PE X a ta):PE X (.UnaryOp .Not a pos) (Qvc ta):=by
 intro pins s σ H Q I h;refine UnaryOp_ (thn (q pins s σ H _ I h) fun v s1 ⟨x,H1,G,B,q1⟩=>?_)
 obtain ⟨c,rfl,q1⟩:=q1;cases B;exact not_of (ar ⟨.bl (!c),H1,G,rfl,q1⟩)
end
def SqL (K:PySem.W.Frag) (H:Hp) (a:aA) (xs:List V):Prop:=
 Rd H a (.lst xs) \/
  ∃ (o:Obj) (its:Array aB) (n:Nat),K.lookup a=some o/\o.cls=.type "list" /\ o.dict=none/\o.data=.seq its n/\its.size<=sizeLine/\Vals xs its.toList
def SqT (K:PySem.W.Frag) (H:Hp) (a:aA) (xs:List V):Prop:=
 Rd H a (.tup xs) \/
  ∃ (o:Obj) (its:Array aB) (n:Nat),K.lookup a=some o/\o.cls=.type "tuple" /\ o.data=.seq its n/\its.size<=sizeLine/\Vals xs its.toList
def Qzm:aB->Option V
 | .none=>some .non
 | .bool b=>some (.bl b)
 | .int i _=>some (.int i)
 | .str x _=>some (.str x)
 | .bytes b _=>some (.byt b)
 | .float b _=>some (.flt b)
 | .ref a=>some (.ref a)
 | .type n=>some (.ty n)
 | _=>none
theorem RelV.abs {x:V} (r:RelV x u):Qzm u=some x:=by
 cases x with
 | non=>cases r; rfl
 | bl _=>cases r; rfl
 | int _=>obtain ⟨t,rfl⟩:=r; rfl
 | str _=>obtain ⟨t,rfl⟩:=r; rfl
 | byt _=>obtain ⟨t,rfl⟩:=r; rfl
 | flt _=>obtain ⟨t,rfl⟩:=r; rfl
 | ref _=>cases r; rfl
 | ty _=>cases r; rfl
theorem RelV.inj {x:V} (r:RelV x u) (q:RelV y u):x=y:=Option.some.inj (r.abs.symm.trans q.abs)
theorem Vals.inj:∀ {xs ys:List V} {us:List aB},Vals xs us->Vals ys us->xs=ys
 | _,_,_,.nil,.nil=>rfl
 | _,_,_,.cons r t,.cons q t'=>by rw [r.inj q,Vals.inj t t']
variable {xs ys:List V}
section
variable {σ:St}
theorem SqL.of (h:H a=some (.lst xs)):SqL K H a xs:=.inl (.inl h)
theorem SqT.of (h:H a=some (.tup xs)):SqT K H a xs:=.inl (.inl h)
theorem Inv.list (I:Inv X pins σ H s) (h:SqL X.K H a xs):∃ its:List aB,Vals xs its/\PlainL s.heap a its.toArray/\xs.length<=sizeLine:=by
 rcases h with h | ⟨o,its,n,B,q,hd,hs,hz,r⟩
 ·obtain ⟨z,its,n,r,e⟩:=h.ok I.hok;exact ⟨its,r,⟨_,n,e,rfl,rfl,rfl⟩,z⟩
 ·refine ⟨its.toList,r,⟨o,n,I.kIn a o B,q,hd,by simpa using hs⟩,?_⟩;have e:=r.length;simp only [Array.length_toList] at e;omega
theorem Inv.tuple (I:Inv X pins σ H s) (h:SqT X.K H a xs):∃ its:List aB,Vals xs its/\IsTup s.heap a its.toArray/\xs.length<=sizeLine:=by
 rcases h with h | ⟨o,its,n,B,q,hs,hz,r⟩
 ·obtain ⟨z,its,r,p⟩:=h.ok I.hok;exact ⟨its,r,p,z⟩
 ·refine ⟨its.toList,r,⟨o,I.kIn a o B,q,n,by simpa using hs⟩,?_⟩;have e:=r.length;simp only [Array.length_toList] at e;omega
theorem Inv.list_inj (I:Inv X pins σ H s) (h:SqL X.K H a xs) (h':SqL X.K H a ys):xs=ys:=by
 obtain ⟨its,r,⟨o,n,e,_,_,d⟩,_⟩:=I.list h;obtain ⟨its',B,⟨o',J,q,_,_,d'⟩,_⟩:=I.list h';rw [e] at q; cases q;rw [d] at d';injection d' with G _
 have:its=its':=by simpa using congrArg Array.toList G
 subst this;exact r.inj B
theorem Inv.tuple_inj (I:Inv X pins σ H s) (h:SqT X.K H a xs) (h':SqT X.K H a ys):xs=ys:=by
 obtain ⟨its,r,⟨o,e,_,n,d⟩,_⟩:=I.tuple h;obtain ⟨its',B,⟨o',q,_,J,d'⟩,_⟩:=I.tuple h';rw [e] at q; cases q;rw [d] at d';injection d' with G _
 have:its=its':=by simpa using congrArg Array.toList G
 subst this;exact r.inj B
end
abbrev Cx.wish (X:Cx) (E:aB->aC->Prop):Cx:={ X with xe:=E }
abbrev Cx.nox (X:Cx):Cx:=X.wish fun _ _=>False
theorem Cx.Ok.wish (ok:X.Ok) (E:aB->aC->Prop):(X.wish E).Ok:=
 ⟨ok.mod,ok.kind,ok.glob,ok.blt,ok.above,ok.inj,ok.has,ok.cab,ok.hd,ok.frames,ok.stk,ok.exf,ok.bs,ok.bsz,ok.noex,ok.exfs,ok.funs,ok.frf⟩
theorem Cx.Ok.unwish (ok:(X.wish E).Ok):X.Ok:=
 ⟨ok.mod,ok.kind,ok.glob,ok.blt,ok.above,ok.inj,ok.has,ok.cab,ok.hd,ok.frames,ok.stk,ok.exf,ok.bs,ok.bsz,ok.noex,ok.exfs,ok.funs,ok.frf⟩
variable {E:aB->aC->Prop}
section
variable {σ:St}
theorem Inv.wish (I:Inv X pins σ H s) (E:aB->aC->Prop):Inv (X.wish E) pins σ H s:=⟨I.ok.wish E,I.os,I.bare,I.base,I.loc,I.cell,I.free,I.freeC,I.pin,I.hok,I.len⟩
theorem Inv.unwish (I:Inv (X.wish E) pins σ H s):Inv X pins σ H s:=⟨I.ok.unwish,I.os,I.bare,I.base,I.loc,I.cell,I.free,I.freeC,I.pin,I.hok,I.len⟩
theorem SP.unwish {D:Ends} {f:Flow} (h:SP (X.wish E) pins D f s'):SP X pins D f s':=by
 cases f with
 | next=>obtain ⟨B,H',I,q⟩:=h; exact ⟨B,H',I.unwish,q⟩
 | brk=>obtain ⟨B,H',I,q⟩:=h; exact ⟨B,H',I.unwish,q⟩
 | cont=>obtain ⟨B,H',I,q⟩:=h; exact ⟨B,H',I.unwish,q⟩
 | ret u=>obtain ⟨v,B,H',I,r,q⟩:=h; exact ⟨v,B,H',I.unwish,r,q⟩
theorem PSs.nox {st:List aK} {t:TS} (h:PSs X.nox st t):PSs X st t:=fun pins s σ H D I B=>
 ae (h pins s σ H D (I.wish _) B) (fun _ _ q=>q.unwish) fun _ _ z=>False.elim z
end
variable {st:aK} {u:TS} {te:TE} {pos:Pos}
section
variable {rest:List aK} {t:TS} {e:aD}
def Qhe:TS:=fun D σ H=>D.nx σ H
def Qva (t u:TS):TS:=fun D σ H=>t { D with nx:=u D } σ H
theorem Q94:PSs X [] Qhe:=fun _ _ σ H _ I h=>wpAny_execs_nil ⟨σ,H,I,h⟩
theorem zg (h1:PS X st t) (h2:PSs X rest u):PSs X (st :: rest) (Qva t u):=by
 intro pins s σ H D I h;refine wpAny_execs_cons (thn (h1 pins s σ H { D with nx:=u D } I h) fun f s1 q=>?_)
 cases f with
 | next=>
  obtain ⟨B,H',G,q⟩:=q;exact h2 pins s1 B H' D G q
 | ret v=>exact q
 | brk=>exact q
 | cont=>exact q
theorem yn (h1:PS X st t):PSs X [st] t:=by
 intro pins s σ H D I h;refine wpAny_execs_cons (thn (h1 pins s σ H D I h) fun f s1 q=>?_)
 cases f with
 | next=>exact wpAny_execs_nil q
 | ret v=>exact q
 | brk=>exact q
 | cont=>exact q
theorem Qnc:PS X (.Pass pos) Qhe:=fun _ _ σ H _ I h=>wpAny_Pass ⟨σ,H,I,h⟩
theorem Inv.quiet {σ:St} (I:Inv X pins σ H s):interactive X.env=false:=by simp [interactive,I.ok.kind]
def Qvg (te:TE):TS:=fun D σ H=>te σ H fun _ H1=>D.nx σ H1
theorem Qdm (B:PE X e te) (hs:swapsWith e none pos.line X.env=pure false:=by rfl):PS X (.Expr e pos) (Qvg te):=by
 intro pins s σ H D I h;exact wpAny_Expr_any (thn (B pins s σ H _ I h) fun v s1 ⟨x,H1,q,G,q1⟩=>⟨σ,H1,q,q1⟩) I.quiet hs
def Qrg (te:TE):TS:=fun D σ H=>te σ H D.rt
theorem Q5a (G:PE X e te):PS X (.Return (some e) pos) (Qrg te):=by
 intro pins s σ H D I h;exact wpAny_Return_some (thn (G pins s σ H _ I h) fun v s1 ⟨x,H1,B,q,q1⟩=>⟨x,σ,H1,B,q,q1⟩)
def Qvf (c:TT) (t u:TS):TS:=fun D σ H=>c σ H fun b H1=>if b=true then t D σ H1 else u D σ H1
theorem Qia {a b:List aK} (B:PT X c tc) (G:PSs X a t) (J:PSs X b u):PS X (.If c a b pos) (Qvf tc t u):=by
 intro pins s σ H D I h;refine wpAny_If (thn (B pins s σ H _ I h) fun d s1 ⟨H1,q,q1⟩=>?_)
 cases d with
 | true=>exact G pins s1 σ H1 D q q1
 | false=>exact J pins s1 σ H1 D q q1
end
abbrev TG:=V->St->Hp->(St->Hp->Prop)->Prop
abbrev TGs:=List V->St->Hp->(St->Hp->Prop)->Prop
def PG (X:Cx) (target:aD) (t:TG):Prop:=
 ∀ (pins:List (aA × Obj)) (s:aC) (σ:St) (H:Hp) (v:V) (u:aB) (Q:St->Hp->Prop),Inv X pins σ H s->RelV v u->t v σ H Q ->
  aI (aJ X.prog X.w) X.A (assign target X.env u) (fun _ s'=>∃ σ' H',Inv X pins σ' H' s'/\Q σ' H') X.xe s
def PGs (X:Cx) (ts:List aD) (t:TGs):Prop:=
 ∀ (pins:List (aA × Obj)) (s:aC) (σ:St) (H:Hp) (vs:List V) (us:List aB) (Q:St->Hp->Prop),Inv X pins σ H s->Vals vs us->t vs σ H Q ->
  aI (aJ X.prog X.w) X.A (assignInOrder ((aq ts X.env).map (·.2)) us) (fun _ s'=>∃ σ' H',Inv X pins σ' H' s'/\Q σ' H') X.xe s
abbrev Qum:=V->V->V->Hp->(Hp->Prop)->Prop
def Qxq (X:Cx) (t:Qum):Prop:=
 ∀ (pins:List (aA × Obj)) (s:aC) (σ:St) (H:Hp) (o i v:V) (ov iv u:aB) (Q:Hp->Prop),Inv X pins σ H s->RelV o ov->RelV i iv->RelV v u->t o i v H Q ->
  aI (aJ X.prog X.w) X.A (setItem ov iv u) (fun _ s'=>∃ H',Inv X pins σ H' s'/\Q H') X.xe s
def Q89 (i:Nat):TG:=fun v σ H Q=>Q (σ.set i (some v)) H
theorem Qni {i:Nat} {x:Str} (q:X.N.Nodup) (hi:X.N[i]?=some x) (G:Loc X.env.scope x) (J:X.fn x=true\/X.env.scope.names.lookup x=some .local:=by first | exact .inl rfl | exact .inr rfl | assumption):PG X (.Name x pos) (Q89 i):=by
 intro pins s σ H v u Q I r h;exact wpAny_assign_Name (Q1x I q hi G r (fun s' B=>⟨_,H,B,h⟩) J)
def Qx9:TGs:=fun vs σ H Q=>vs=[]/\Q σ H
def Qjk (t:TG) (u:TGs):TGs:=fun vs σ H Q=>∃ v r,vs=v :: r/\t v σ H fun σ' H'=>u r σ' H' Q
theorem Qng:PGs X [] Qx9:=by
 intro pins s σ H vs us Q I r h;obtain ⟨e,h⟩:=h;subst e;cases r;exact assignInOrder_nil ⟨σ,H,I,h⟩
theorem Qif {e:aD} {t:TG} {u:TGs} (h1:PG X e t) (h2:PGs X es u)
  (hs:(aq (e :: es) X.env).map (·.2)=assign e X.env :: (aq es X.env).map (·.2):=by rfl):PGs X (e :: es) (Qjk t u):=by
 intro pins s σ H vs us Q I r h;obtain ⟨v,J,e1,h⟩:=h;subst e1;cases r with
 | cons r B=>
  rw [hs];refine assignInOrder_cons (thn (h1 pins s σ H _ _ _ I r h) fun _ s1 ⟨q,H1,G,q1⟩=>?_)
  exact h2 pins s1 q H1 _ _ Q G B q1
def Qx8 (K:PySem.W.Frag) (n:Nat) (t:TGs):TG:=fun v σ H Q=>∃ a xs,v=.ref a/\SqT K H a xs/\xs.length=n/\t xs σ H Q
theorem Qsq {k:Nat} {t:TGs} {n:Nat} (U:X.calm=true) (h:PGs X es t)
  (J:(aq es X.env).length=n:=by rfl) (q:(aq es X.env).findIdx? (·.1)=none:=by rfl):PG X (.Tuple es k pos) (Qx8 X.K n t):=by
 intro pins s σ H v u Q I r B;obtain ⟨a,xs,e1,Y,hl,B⟩:=B;subst e1;cases r;obtain ⟨its,G,O,hz⟩:=I.tuple Y;refine assign_Tuple_tuple (I.ok.hd U) O (by simp [J,<- hl,G.length]) q fun h' Z=>?_
 have I1:Inv X pins σ H { s with heap:=h' }:=I.kept (t':=s.toks) fun b o e=>Z b o (E9 (O9 e)) e
 exact h pins _ σ H xs _ Q I1 (by simpa using G) B
def Qzh (to ti:TE) (t:Qum):TG:=fun v σ H Q=>to σ H fun o H1=>ti σ H1 fun i H2=>t o i v H2 fun H3=>Q σ H3
theorem Qsr {o i:aD} {to G:TE} {t:Qum} (U:PE X o to) (hi:PE X i G) (hs:Qxq X t)
  (Y:∀ v,assign (.Subscript o i pos) X.env v=(do
   let q <- aj [v] (aM o X.env)
   let B <- aj [v,q] (aM i X.env)
   standAt pos
   aj [v,q,B] (setItem q B v)
   release [v,q,B] []):=by intro _; rfl):PG X (.Subscript o i pos) (Qzh to G t):=by
 intro pins s σ H v u Q I r h;rw [Y];refine aF (av (thn (U pins s σ H _ I h) fun q s1 ⟨x,H1,I1,Z,q1⟩=>?_))
 refine aF (av (thn (hi pins s1 σ H1 _ I1 q1) fun B s2 ⟨y,H2,I2,J,q2⟩=>?_))
 refine aF (wpAny_standAt (aF (av (thn (hs pins s2 σ H2 x y v q B u _ I2 Z J r q2) fun _ s3 ⟨O,I3,q3⟩=>?_))))
 exact wpAny_release ⟨σ,O,I3,q3⟩
def Qm8 (te:TE) (g:TG):TS:=fun D σ H=>te σ H fun x H1=>g x σ H1 D.nx
theorem Qic {e:aD} {g:TG} (B:PE X e te) (G:PG X tg g) (hs:swapsWithSole [tg] e pos.line X.env=pure false:=by rfl) (U:swappedStores [tg] e X.env=pure none:=by rfl)
  (h1:(aq [tg] X.env).map (·.2)=[assign tg X.env]:=by rfl):PS X (.Assign [tg] e pos) (Qm8 te g):=by
 intro pins s σ H D I h;refine wpAny_Assign_stores (thn (B pins s σ H _ I h) fun v s1 ⟨x,H1,O,J,q1⟩=>?_) hs U
 rw [h1];exact thn (G pins s1 σ H1 x v _ O J q1) fun _ s2 q=>q
theorem Q95 {i:Nat} {x:Str} {e:aD} {pos':Pos} (q:X.N.Nodup) (hi:X.N[i]?=some x) (G:Loc X.env.scope x) (B:PE X e te) (hs:swapsWith e (some (.Name x pos')) pos.line X.env=pure false:=by rfl) (J:X.fn x=true\/X.env.scope.names.lookup x=some .local:=by first | exact .inl rfl | exact .inr rfl | assumption) :
  PS X (.Assign [.Name x pos'] e pos) (Qm8 te (Q89 i)):=by
 intro pins s σ H D I h;refine wpAny_Assign_Name (thn (B pins s σ H _ I h) fun v s1 ⟨y,H1,Y,O,q1⟩=>?_) hs
 exact Q1x Y q hi G O (fun s2 U=>⟨_,H1,U,q1⟩) J
def Qrd (c:TT) (tb:TS):TS:=fun D σ H=>∃ W:Nat->St->Hp->Prop,(∃ m,W m σ H)/\∀ m σ H,W m σ H ->
 c σ H fun b H1=>if b=true then ∃ N:St->Hp->Prop,(∀ σ' H',N σ' H'->∃ m',m' < m/\W m' σ' H')/\tb { D with nx:=N,ct:=N,bk:=D.nx } σ H1 else D.nx σ H1
theorem Qi8 {body:List aK} (hp:PassesOwn (aJ X.prog X.w) X.A X.env X.xe) (hc:PT X c tc) (hb:PSs X body tb):PS X (.While c body [] pos) (Qrd tc tb):=by
 intro pins s σ H D I h;obtain ⟨W,⟨m0,w0⟩,turn⟩:=h;refine wpAny_While (codeAny_whileLoop (fun n s'=>∃ J H',Inv X pins J H' s'/\W n J H') ?_ m0 ⟨σ,H,I,w0⟩);rintro n s1 ⟨B,H1,I1,w1⟩;refine bB hp (thn (hc pins s1 B H1 _ I1 (turn n B H1 w1)) fun b s2 ⟨H2,I2,q2⟩=>?_)
 cases b with
 | true=>
  obtain ⟨N,hN,q2⟩:=q2;rw [bN rfl];refine bB hp (thn (hb pins s2 B H2 _ I2 q2) fun f s3 q3=>?_)
  cases f with
  | next=>
   obtain ⟨q,G,Z,O⟩:=q3;obtain ⟨Y,U,w3⟩:=hN q G O;exact ⟨Y,U,q,G,Z,w3⟩
  | cont=>
   obtain ⟨q,G,Z,O⟩:=q3;obtain ⟨Y,U,w3⟩:=hN q G O;exact ⟨Y,U,q,G,Z,w3⟩
  | brk=>exact q3
  | ret v=>exact q3
 | false=>
  rw [bO D2];exact wpAny_execs_nil ⟨B,H2,I2,q2⟩
structure It where
 go:Nat->Hp->Prop
 yld:Nat->Hp->V->Hp->Prop
 stop:Nat->Hp->Prop
def Q6v (X:Cx) (pins:List (aA × Obj)) (H:Hp) (b:aA):Prop:=
 H b=none/\b≠X.env.locals/\b∉X.fs/\(b∈X.ex\/X.s₀.heap.objs.size<=b)/\(∀ x c,X.env.cells.lookup x=some c->c≠b)/\∀ p∈X.pn ++ pins,p.1≠b
theorem Inv.fpOk {σ:St} (I:Inv X pins σ H s) (B:s.heap.objs.size<=b) (G:H' b=none):Q6v X pins H' b:=by
 refine ⟨G,Nat.ne_of_gt (D3 I.lt B),I.nofs B,.inr (F0 I.sz B),fun x c e z=>?_,fun p hp z=>?_⟩
 ·obtain ⟨v,q⟩:=I.cell x c e;exact absurd (D3 q.lt (by rw [z]; exact B)) (Nat.lt_irrefl _)
 ·exact absurd (D3 (O9 (I.pin p hp).1) (by rw [z]; exact B)) (Nat.lt_irrefl _)
structure Turn (P:aN) (w:aL) (K:PySem.W.Frag) (tg:aD) (J:It) (fp:List aA) (it:aA) (tn:Nat->Heap->Prop):Prop where
 mem:it∈fp
 obj:∀ i h,tn i h->∀ b∈fp,∃ o,h.get? b=some o/\∀ v,o.data≠.cell v
 keep:∀ i h h',tn i h->(∀ b∈fp,∀ o,h.get? b=some o->h'.get? b=some o)->tn i h'
 item:∀ (X:Cx),X.prog=P->X.w=w->X.K=K->X.calm=true->∀ (i:Nat) (pins:List (aA × Obj)) (s:aC) (σ:St) (H:Hp) (E:aB->aC->Prop),Inv X pins σ H s->(∀ b∈fp,Q6v X pins H b)->tn i s.heap->J.go i H ->
  aI (aJ P w) X.A (bC (.ref it)) (fun r s1=>∃ u,r=some u /\
   aI (aJ P w) X.A (letOwnedTupleGo tg (.ref it) u) (fun _ s2=>∃ x H',Inv X pins σ H' s2/\RelV x u/\J.yld i H x H'/\tn (i + 1) s2.heap/\∀ b∈fp,H' b=none) E s1) E s
 done:∀ (X:Cx),X.prog=P->X.w=w->X.K=K->X.calm=true->∀ (i:Nat) (pins:List (aA × Obj)) (s:aC) (σ:St) (H:Hp) (E:aB->aC->Prop),Inv X pins σ H s->(∀ b∈fp,Q6v X pins H b)->tn i s.heap->J.stop i H ->
  aI (aJ P w) X.A (bC (.ref it)) (fun r s1=>r=none/\Inv X pins σ H s1) E s
 self:∀ (A:aQ) (i:Nat) (s:aC) (Q:aB->aC->Prop) (E:aB->aC->Prop),tn i s.heap->Q (.ref it) s->aI (aJ P w) A (pyIter (.ref it)) Q E s
abbrev TI:=St->Hp->(It->Hp->Prop)->Prop
def PIE (X:Cx) (pins:List (aA × Obj)) (σ:St) (tg:aD) (R:It->Hp->Prop) (itv:aB) (s2:aC):Prop:=
 ∃ (it:aA) (fp:List aA) (tn:Nat->Heap->Prop) (J:It) (H':Hp),itv=.ref it/\Inv X pins σ H' s2/\Turn X.prog X.w X.K tg J fp it tn/\tn 0 s2.heap/\(∀ b∈fp,Q6v X pins H' b)/\R J H'
def PI (X:Cx) (tg iter:aD) (wi:TI):Prop:=
 ∀ (pins:List (aA × Obj)) (s:aC) (σ:St) (H:Hp) (R:It->Hp->Prop),Inv X pins σ H s->wi σ H R ->
  aI (aJ X.prog X.w) X.A (aM iter X.env) (fun v s1=>aI (aJ X.prog X.w) X.A (pyIter v) (PIE X pins σ tg R) X.xe s1) X.xe s
theorem Qji {M:Model} {A:aQ} {E:aB->aC->Prop} {tg:aD} {u:aB} {o:Obj} {n:String} {vs:Array aB} {Q:Unit->aC->Prop} (G:s.heap.get? it=some o) (B:o.cls=.type n) (hd:o.data=.fields vs)
  (I:["enumerate", "zip", "dict_itemiterator", "dict_reverseitemiterator", "odict_iterator", "itertools.zip_longest", "itertools.pairwise"].contains n=false) (q:Q () s):aI M A (letOwnedTupleGo tg (.ref it) u) Q E s:=by
 unfold letOwnedTupleGo;cases tg <;> first
  | exact aR q
  | (cases u <;> first
    | exact aR q
    | (refine aF (wpAny_load G ?_)
       rw [B,hd];show aI M A (if (["enumerate", "zip", "dict_itemiterator", "dict_reverseitemiterator", "odict_iterator", "itertools.zip_longest", "itertools.pairwise"].contains n && vs[0]? == some (af _))=true then _ else _) Q E s;rw [bO (by intro h; rw [I,Bool.false_and] at h; cases h)];exact aR q))
def Itl (K:PySem.W.Frag) (a:aA):It:=
 ⟨fun i H=>∃ xs x,SqL K H a xs/\xs[i]?=some x,fun i H x H'=>H'=H/\∀ xs,SqL K H a xs->xs[i]?=some x,fun i H=>∃ xs,SqL K H a xs/\xs.length<=i⟩
def Itt (K:PySem.W.Frag) (a:aA):It:=
 ⟨fun i H=>∃ xs x,SqT K H a xs/\xs[i]?=some x,fun i H x H'=>H'=H/\∀ xs,SqT K H a xs->xs[i]?=some x,fun i H=>∃ xs,SqT K H a xs/\xs.length<=i⟩
def Itr (lo:Int) (n:Nat):It:=⟨fun i _=>i < n,fun i H x H'=>H'=H/\x=.int (lo + i),fun i _=>n<=i⟩
theorem Qet {w:aL} (a it:aA):Turn P w K tg (Itl K a) [it] it (fun i h=>h.IsListIter it a i) where
 mem:=by simp
 obj:=fun i h st b q=>by
  have e:b=it:=by simpa using q
  subst e;obtain ⟨o,e,c,d⟩:=st;exact ⟨o,e,fun v z=>by rw [d] at z; cases z⟩
 keep:=fun i h h' st k=>st.at fun o e=>k it (by simp) o e
 item:=by
  intro X hP Y U hc i pins s σ H E I G st O;subst hP Y U;obtain ⟨xs,x,B,hx⟩:=O;obtain ⟨its,rv,p,hz⟩:=I.list B;obtain ⟨u,hu,ru⟩:=rv.get hx;obtain ⟨f0,J,f2,Z,f4,f5⟩:=G it (by simp);refine wpAny_pyNext_list_item st p.isList (x:=u) (by simpa using hu) fun h' st' sb=>?_
  have I1:Inv X pins σ H { s with heap:=h' }:=I.turned (t':=s.toks) (fun b o q e=>(sb.2 b q).trans e) f0 J Z f4 f5
  obtain ⟨o,e,c,d⟩:=id st';exact ⟨u,rfl,Qji (s:={ s with heap:=h' }) e c d (by decide) ⟨x,H,I1,ru,⟨rfl,fun ys hy=>by rw [I.list_inj hy B]; exact hx⟩,st',fun b q=>(G b q).1⟩⟩
 done:=by
  intro X hP Y U hc i pins s σ H E I G st O;subst hP Y U;obtain ⟨xs,B,hx⟩:=O;obtain ⟨its,rv,p,hz⟩:=I.list B;obtain ⟨f0,J,f2,Z,f4,f5⟩:=G it (by simp);have hl:=rv.length;exact wpAny_pyNext_list_end (I.ok.hd hc) st p.isList (by simp; omega) fun h' eb=>⟨rfl,I.turned (t':=s.toks) (fun b o q e=>eb b o q e) f0 J Z f4 f5⟩
 self:=fun _ _ _ _ _ st h=>wpAny_pyIter_listiter st h
theorem Qbw {w:aL} (a it:aA):Turn P w K tg (Itt K a) [it] it (fun i h=>h.IsTupleIter it a i) where
 mem:=by simp
 obj:=fun i h st b q=>by
  have e:b=it:=by simpa using q
  subst e;obtain ⟨o,e,c,d⟩:=st;exact ⟨o,e,fun v z=>by rw [d] at z; cases z⟩
 keep:=fun i h h' st k=>st.at fun o e=>k it (by simp) o e
 item:=by
  intro X hP Y U hc i pins s σ H E I G st O;subst hP Y U;obtain ⟨xs,x,B,hx⟩:=O;obtain ⟨its,rv,p,hz⟩:=I.tuple B;obtain ⟨u,hu,ru⟩:=rv.get hx;obtain ⟨f0,J,f2,Z,f4,f5⟩:=G it (by simp);refine wpAny_pyNext_tuple_item st (show s.heap.IsTuple a its.toArray from p) (x:=u) (by simpa using hu) fun h' st' sb=>?_
  have I1:Inv X pins σ H { s with heap:=h' }:=I.turned (t':=s.toks) (fun b o q e=>(sb.2 b q).trans e) f0 J Z f4 f5
  obtain ⟨o,e,c,d⟩:=id st';exact ⟨u,rfl,Qji (s:={ s with heap:=h' }) e c d (by decide) ⟨x,H,I1,ru,⟨rfl,fun ys hy=>by rw [I.tuple_inj hy B]; exact hx⟩,st',fun b q=>(G b q).1⟩⟩
 done:=by
  intro X hP Y U hc i pins s σ H E I G st O;subst hP Y U;obtain ⟨xs,B,hx⟩:=O;obtain ⟨its,rv,p,hz⟩:=I.tuple B;obtain ⟨f0,J,f2,Z,f4,f5⟩:=G it (by simp);have hl:=rv.length;exact wpAny_pyNext_tuple_end (I.ok.hd hc) st (show s.heap.IsTuple a its.toArray from p) (by simp; omega) fun h' eb=>⟨rfl,I.turned (t':=s.toks) (fun b o q e=>eb b o q e) f0 J Z f4 f5⟩
 self:=fun _ _ _ _ _ st h=>wpAny_pyIter_tupleiter st h
theorem Qbx {w:aL} (it:aA) (lo:Int) (n:Nat):Turn P w K tg (Itr lo n) [it] it (fun i h=>IsRangeIter h it (lo + (i:Nat) * 1) ((n:Int) - (i:Nat)) 1) where
 mem:=by simp
 obj:=fun i h st b q=>by
  have e:b=it:=by simpa using q
  subst e;exact ⟨_,st,fun v z=>by
   have z':Data.fields _=Data.cell v:=z;cases z'⟩
 keep:=fun i h h' st k=>k it (by simp) _ st
 item:=by
  intro X hP O J Z i pins s σ H E I B st hg;subst hP O J;obtain ⟨f0,G,f2,U,f4,Y⟩:=B it (by simp);have W:=Walks.range (prog:=X.prog) (w:=X.w) (I.ok.hd Z) it lo 1 n;refine W.item i s _ _ hg st fun v h' tk hv st' kk=>?_
  obtain ⟨t,rfl⟩:=hv;have I1:Inv X pins σ H { s with heap:=h',toks:=tk }:=I.turned (fun b o q e=>kk b o (by simpa using q) e) f0 G U f4 Y
  refine ⟨_,rfl,Qji (s:={ s with heap:=h',toks:=tk }) (n := "range_iterator") st' rfl rfl (by decide) ⟨.int (lo + i),H,I1,⟨t,?_⟩,⟨rfl,rfl⟩,st',fun b q=>(B b q).1⟩⟩
  rw [Int.mul_one]
 done:=by
  intro X hP O J Z i pins s σ H E I B st hg;subst hP O J;obtain ⟨f0,G,f2,U,f4,Y⟩:=B it (by simp);exact wpAny_pyNext_range_end (I.ok.hd Z) st (by have:n<=i:=hg; omega) fun h' eb=>⟨rfl,I.turned (t':=s.toks) (fun b o q e=>eb b o q e) f0 G U f4 Y⟩
 self:=fun _ _ _ _ _ st h=>wpAny_pyIter_rangeiter st h
variable {tg:aD}
def Qx5 (K:PySem.W.Frag) (tl:TE):TI:=fun σ H R=>tl σ H fun x H1=>∃ a,x=.ref a/\(∃ xs,SqL K H1 a xs)/\R (Itl K a) H1
def Qzg (K:PySem.W.Frag) (tl:TE):TI:=fun σ H R=>tl σ H fun x H1=>∃ a,x=.ref a/\(∃ xs,SqT K H1 a xs)/\R (Itt K a) H1
theorem Qnf (hl:PE X l tl):PI X tg l (Qx5 X.K tl):=by
 intro pins s σ H R I h;refine thn (hl pins s σ H _ I h) fun v s1 ⟨x,H1,B,J,q1⟩=>?_
 obtain ⟨a,e,⟨xs,G⟩,q⟩:=q1;subst e;cases J;obtain ⟨its,U,p,hz⟩:=B.list G;refine wpAny_pyIter_list p.isList ?_;refine ⟨s1.heap.objs.size,[s1.heap.objs.size],_,_,H1,rfl,B.kept (t':=s1.toks) fun b o e=>O1 _ e,Qet a _,⟨_,D8 _ rfl,rfl,rfl⟩,fun b O=>?_,q⟩
 have e:b=s1.heap.objs.size:=by simpa using O
 subst e;exact B.fpOk (O8 _) (B.hok.fresh (O8 _))
theorem Qsp (hl:PE X l tl):PI X tg l (Qzg X.K tl):=by
 intro pins s σ H R I h;refine thn (hl pins s σ H _ I h) fun v s1 ⟨x,H1,B,J,q1⟩=>?_
 obtain ⟨a,e,⟨xs,G⟩,q⟩:=q1;subst e;cases J;obtain ⟨its,U,p,hz⟩:=B.tuple G;refine bL (show s1.heap.IsTuple a its.toArray from p) ?_;refine ⟨s1.heap.objs.size,[s1.heap.objs.size],_,_,H1,rfl,B.kept (t':=s1.toks) fun b o e=>O1 _ e,Qbw a _,⟨_,D8 _ rfl,rfl,rfl⟩,fun b O=>?_,q⟩
 have e:b=s1.heap.objs.size:=by simpa using O
 subst e;exact B.fpOk (O8 _) (B.hok.fresh (O8 _))
theorem Qae {σ:St} {R:It->Hp->Prop} {E:aB->aC->Prop} {lo hi:Int} {t u v:Tok} {tk:Nat} (I:Inv X pins σ H s) (h1:-(2 ^ 62)<=lo) (h2:lo < 2 ^ 62) (O:-(2 ^ 62)<=hi) (G:hi < 2 ^ 62)
  (q:R (Itr lo (hi - lo).toNat) H):aI (aJ X.prog X.w) X.A (pyIter (.ref s.heap.objs.size)) (PIE X pins σ tg R) E { s with heap:=s.heap.push { cls:=.type "range",data:=.fields #[.int lo t,.int hi u,.int 1 v] },toks:=tk }:=by
 refine wpAny_pyIter_range (IsRange.new ..) (small_one h1 h2 O G) ?_;have B:Inv X pins σ H { s with heap:=s.heap.push { cls:=.type "range",data:=.fields #[.int lo t,.int hi u,.int 1 v] },toks:=tk }:=I.kept fun b o e=>O1 _ e
 refine ⟨(s.heap.push { cls:=.type "range",data:=.fields #[.int lo t,.int hi u,.int 1 v] }).objs.size,[(s.heap.push { cls:=.type "range",data:=.fields #[.int lo t,.int hi u,.int 1 v] }).objs.size],_,_,H,rfl,
  B.kept (t':=tk) fun b o e=>O1 _ e,Qbx _ lo (hi - lo).toNat,?_,fun b J=>?_,q⟩
 ·have e1:lo + ((0:Nat):Int) * 1=lo:=by simp
  have e2:(((hi - lo).toNat:Nat):Int) - ((0:Nat):Int)=Builtin.Range.rangeSize lo hi 1:=by rw [rangeSize_one]; split <;> omega
  show IsRangeIter _ _ (lo + ((0:Nat):Int) * 1) ((((hi - lo).toNat:Nat):Int) - ((0:Nat):Int)) 1;rw [e1,e2];exact D8 _ rfl
 ·have e:b=(s.heap.push { cls:=.type "range",data:=.fields #[.int lo t,.int hi u,.int 1 v] }).objs.size:=by simpa using J
  subst e;exact B.fpOk (O8 _) (B.hok.fresh (O8 _))
def Qx4 (ta:TA):TI:=fun σ H R=>ta σ H fun vs H1=>∃ j:Int,vs=[.int j]/\-(2 ^ 62)<=j/\j < 2 ^ 62/\R (Itr 0 j.toNat) H1
def Qx3 (ta:TA):TI:=fun σ H R=>ta σ H fun vs H1=>∃ i j:Int,vs=[.int i,.int j]/\(-(2 ^ 62)<=i/\i < 2 ^ 62/\-(2 ^ 62)<=j/\j < 2 ^ 62)/\R (Itr i (j - i).toNat) H1
theorem Qfd {a:aD} {p:Pos} (O:Gl X "range") (G:X.mg "range" = none) (J:PA X [a] ta) (hs:aO [a] X.env=[(false,aM a X.env)]:=by rfl):PI X tg (.Call (.Name "range" p) [a] [] pos) (Qx4 ta):=by
 intro pins s σ H R I h;refine Call_ (Q35 I O G boot_range (PyProof.Rows.callWith_type1 (thn (J pos pins s σ H _ I h) fun us s1 ⟨vs,H1,Y,U,q1⟩=>?_) hs rfl))
 obtain ⟨j,e,q1,q2,q⟩:=q1;subst e;cases U with
 | cons r B=>
  cases B;obtain ⟨t,rfl⟩:=r;exact call_range_1 (Qae Y (by omega) (by omega) q1 q2 (by simpa using q))
theorem Qfc {a b:aD} {p pos:Pos} (O:Gl X "range") (J:X.mg "range" = none) (U:PA X [a,b] ta) (hs:aO [a,b] X.env=[(false,aM a X.env),(false,aM b X.env)]:=by rfl) (B:aO [b] X.env=[(false,aM b X.env)]:=by rfl) :
  PI X tg (.Call (.Name "range" p) [a,b] [] pos) (Qx3 ta):=by
 intro pins s σ H R I h;refine Call_ (Q35 I O J boot_range (PyProof.Rows.callWith_type1 (thn (U pos pins s σ H _ I h) fun us s1 ⟨vs,H1,Z,Y,q1⟩=>?_) (by rw [hs,B]) (by rw [B]; rfl)))
 obtain ⟨i,j,e,⟨q1,q2,q3,q4⟩,q⟩:=q1;subst e;cases Y with
 | cons r G=>
  cases G with
  | cons r' G=>
   cases G;obtain ⟨t,rfl⟩:=r;obtain ⟨t',rfl⟩:=r';exact call_range_2 (Qae Z q1 q2 q3 q4 q)
def Qyt (wi:TI) (g:TG) (tb:TS):TS:=fun D σ H=>wi σ H fun J H1=>∃ W:Nat->Nat->St->Hp->Prop,(∃ m,W 0 m σ H1)/\∀ i m σ H,W i m σ H ->
 (J.stop i H/\D.nx σ H)\/(J.go i H/\∃ N:St->Hp->Prop,(∀ σ' H',N σ' H'->∃ m',m' < m/\W (i + 1) m' σ' H')/\∀ x H',J.yld i H x H'->g x σ H' fun σ2 H2=>tb { D with nx:=N,ct:=N,bk:=D.nx } σ2 H2)
def Q5b (fp:List aA) (h:Heap):List (aA × Obj):=fp.filterMap fun b=>(h.get? b).map fun o=>(b,o)
theorem Xe {h:Heap} {o:Obj} (q:b∈fp) (e:h.get? b=some o):(b,o)∈Q5b fp h:=List.mem_filterMap.mpr ⟨b,q,by rw [e]; rfl⟩
theorem Qfm {h:Heap} {p:aA × Obj} (hp:p∈Q5b fp h):p.1∈fp/\h.get? p.1=some p.2:=by
 obtain ⟨b,B,e⟩:=List.mem_filterMap.mp hp;cases q:h.get? b with
 | none=>rw [q] at e; cases e
 | some o=>
  rw [q] at e;have G:(b,o)=p:=Option.some.inj e;subst G;exact ⟨B,q⟩
theorem Inv.pinned {σ:St} (I:Inv X pins σ H s) (O:∀ b∈fp,Q6v X pins H b) (J:∀ b∈fp,∃ o,s.heap.get? b=some o/\∀ v,o.data≠.cell v):Inv X (pins ++ Q5b fp s.heap) σ H s:=
 I.pins_of fun p hp=>(F1.mp hp).elim (fun z=>I.pin p (E4 _ z)) fun z=>by
  obtain ⟨q,e⟩:=Qfm z;obtain ⟨Y,G,U,_⟩:=O p.1 q;obtain ⟨o,B,d⟩:=J p.1 q;rw [e] at B; cases B;exact ⟨e,Y,G,U,d⟩
theorem Inv.unpinned {pl:List (aA × Obj)} {σ:St} (I:Inv X (pins ++ pl) σ H s):Inv X pins σ H s:=I.pins_of fun p hp=>I.pin p (E4 _ (F7 _ hp))
theorem Qsj {iter:aD} {body:List aK} {wi:TI} {g:TG} {pos:Pos} (hp:PassesOwn (aJ X.prog X.w) X.A X.env X.xe) (hc:X.calm=true) (hi:PI X tg iter wi) (hg:PG X tg g) (Z:PSs X body tb)
  (hs:∀ x,aw iter X.env x=pure x:=by intro _; rfl):PS X (.For tg iter body [] pos) (Qyt wi g tb):=by
 intro pins s σ H D I h;refine wpAny_For (thn (hi pins s σ H _ I h) fun v s1 h1=>thn h1 fun a9 s2 h2=>?_) hs
 obtain ⟨it,fp,tn,J,H2,e,I2,T,a8,f2,W,⟨m0,w0⟩,turn⟩:=h2;subst e;have G:∀ {H':Hp},(∀ b∈fp,H' b=none)->∀ b∈fp,Q6v X pins H' b:=fun hn b Z=>⟨hn b Z,(f2 b Z).2⟩
 refine codeAny_forLoop_any (fun n s'=>∃ i O H',Inv X pins O H' s'/\tn i s'.heap/\(∀ b∈fp,H' b=none)/\W i n O H') ?_ m0 ⟨0,σ,H2,I2,a8,fun b Z=>(f2 b Z).1,w0⟩
 rintro n s3 ⟨i,Y,H3,I3,a3,a4,w3⟩;rcases turn i n Y H3 w3 with ⟨stop,qn⟩ | ⟨go,N,hN,step⟩
 ·refine bB hp (thn (T.done X rfl rfl rfl hc i pins s3 Y H3 X.xe I3 (G a4) a3 stop) fun r s4 ⟨hr,I4⟩=>?_)
  subst hr;exact wpAny_execs_nil ⟨Y,H3,I4,qn⟩
 ·refine bB hp (thn (T.item X rfl rfl rfl hc i pins s3 Y H3 X.xe I3 (G a4) a3 go) fun r s4 ⟨u,hr,h4⟩=>?_)
  subst hr;refine bB hp (thn h4 fun _ s5 ⟨x,H5,I5,r5,y5,a2,a7⟩=>?_);have a6:=I5.pinned (G a7) (T.obj _ _ a2);refine bB hp (thn (hg _ s5 Y H5 x u _ a6 r5 (step x H5 y5)) fun _ s6 ⟨a5,H6,I6,q6⟩=>?_)
  refine bB hp (thn (Z _ s6 a5 H6 _ I6 q6) fun f s7 q7=>?_)
  have again:∀ {q:St} {B:Hp},Inv X (pins ++ Q5b fp s5.heap) q B s7->N q B->∃ m,m < n/\∃ i O H',Inv X pins O H' s7/\tn i s7.heap/\(∀ b∈fp,H' b=none)/\W i m O H':=fun {q B} U n7=>by
   obtain ⟨m',hm,w7⟩:=hN q B n7;refine ⟨m',hm,i + 1,q,B,U.unpinned,T.keep _ _ _ a2 fun b Z o e=>(U.pin (b,o) (E4 _ (E4 _ (Xe Z e)))).1,fun b Z=>?_,w7⟩;obtain ⟨o,e,d⟩:=T.obj _ _ a2 b Z;exact (U.pin (b,o) (E4 _ (E4 _ (Xe Z e)))).2.1
  cases f with
  | next=>obtain ⟨q,B,U,n7⟩:=q7; exact again U n7
  | cont=>obtain ⟨q,B,U,n7⟩:=q7; exact again U n7
  | brk=>obtain ⟨q,B,U,q7⟩:=q7; exact ⟨q,B,U.unpinned,q7⟩
  | ret v=>obtain ⟨x7,q,B,U,r7,q7⟩:=q7; exact ⟨x7,q,B,U.unpinned,r7,q7⟩
abbrev R2:=V->V->Hp->VK->Prop
variable {r:R2}
def OpR (X:Cx) (f:aB->aB->Sem aB) (r:R2):Prop:=
 ∀ (pins:List (aA × Obj)) (s:aC) (σ:St) (H:Hp) (x y:V) (v u:aB) (Q:VK),Inv X pins σ H s->RelV x v->RelV y u->r x y H Q ->
  aI (aJ X.prog X.w) X.A (f v u) (EP X pins σ Q) X.xe s
def UnR (X:Cx) (f:aB->Sem aB) (r:V->Hp->VK->Prop):Prop:=
 ∀ (pins:List (aA × Obj)) (s:aC) (σ:St) (H:Hp) (x:V) (v:aB) (Q:VK),Inv X pins σ H s->RelV x v->r x H Q ->
  aI (aJ X.prog X.w) X.A (f v) (EP X pins σ Q) X.xe s
def K1 (X:Cx) (f:aB) (r:List V->Hp->VK->Prop):Prop:=
 ∀ (pins:List (aA × Obj)) (s:aC) (σ:St) (H:Hp) (xs:List V) (us:List aB) (Q:VK),Inv X pins σ H s->Vals xs us->r xs H Q ->
  aI (aJ X.prog X.w) X.A (call f us) (EP X pins σ Q) X.xe s
def tOp (r:R2) (ta tb:TE):TE:=fun σ H Q=>ta σ H fun x H1=>tb σ H1 fun y H2=>r x y H2 Q
def tUn (r:V->Hp->VK->Prop) (ta:TE):TE:=fun σ H Q=>ta σ H fun x H1=>r x H1 Q
def rI (C:Int->Int->Prop) (g:Int->Int->V):R2:=fun x y H Q=>∃ i j,x=.int i/\y=.int j/\C i j/\Q (g i j) H
def rI0 (g:Int->Int->V):R2:=fun x y H Q=>∃ i j,x=.int i/\y=.int j/\Q (g i j) H
def rU (g:Int->V):V->Hp->VK->Prop:=fun x H Q=>∃ i,x=.int i/\Q (g i) H
variable {b c:aD} {ta tb tc:TE}
section
variable {a:aD}
theorem Qug (J:PE X a ta) (Z:PE X b tb) {σ:St} {R:V->V->Hp->Prop} (I:Inv X pins σ H s)
  (h:ta σ H fun x H1=>tb σ H1 fun y H2=>R x y H2) {Q:aB->aC->Prop} {f:aB->aB->Sem aB}
  (O:∀ v u s2 x y H2,Inv X pins σ H2 s2->RelV x v->RelV y u->R x y H2->aI (aJ X.prog X.w) X.A (f v u) Q X.xe s2) :
  aI (aJ X.prog X.w) X.A (aM a X.env) (fun v B=>aI (aJ X.prog X.w) X.A (aM b X.env) (fun u q=>aI (aJ X.prog X.w) X.A (f v u) Q X.xe q) X.xe B) X.xe s:=by
 refine thn (J pins s σ H _ I h) fun v s1 ⟨x,H1,I1,U,q1⟩=>?_
 refine thn (Z pins s1 σ H1 _ I1 q1) fun u s2 ⟨y,H2,Y,G,q2⟩=>?_
 exact O v u s2 x y H2 Y U G q2
theorem Qqq {op:Operator} (J:OpR X (aW op) r) (O:PE X a ta) (Y:PE X b tb):PE X (.BinOp a op b pos) (tOp r ta tb):=by
 intro pins s σ H Q I h;exact wpAny_BinOp (Qug O Y I h fun v u s2 x y H2 U B G q=>J pins s2 σ H2 x y v u Q U B G q)
theorem Qw3 {op:UnaryOp} {r:V->Hp->VK->Prop} (q:UnR X (unaryOp op) r) (B:PE X a ta):PE X (.UnaryOp op a pos) (tUn r ta):=by
 intro pins s σ H Q I h;exact UnaryOp_ (thn (B pins s σ H _ I h) fun v s1 ⟨x,H1,J,G,q1⟩=>q pins s1 σ H1 x v Q J G q1)
theorem opI {f:aB->aB->Sem aB} {C:Int->Int->Prop} {g:Int->Int->Int}
  (rule:∀ (i j:Int) (t u:Tok) (s:aC) (Q:aB->aC->Prop) (E:aB->aC->Prop),C i j->Q (.int (g i j) s.toks) { s with toks:=s.toks + 1 }->aI (aJ X.prog X.w) X.A (f (.int i t) (.int j u)) Q E s) :
  OpR X f (rI C fun i j=>.int (g i j)):=by
 intro pins s σ H x y v u Q I B G h;obtain ⟨i,j,rfl,rfl,J,q⟩:=h;obtain ⟨t,rfl⟩:=B;obtain ⟨t',rfl⟩:=G;exact rule i j t t' s _ _ J ⟨.int (g i j),H,I.tok _,⟨_,rfl⟩,q⟩
theorem Qwi {f:aB->aB->Sem aB} {g:Int->Int->Int}
  (rule:∀ (i j:Int) (t u:Tok) (s:aC) (Q:aB->aC->Prop) (E:aB->aC->Prop),Q (.int (g i j) s.toks) { s with toks:=s.toks + 1 }->aI (aJ X.prog X.w) X.A (f (.int i t) (.int j u)) Q E s) :
  OpR X f (rI0 fun i j=>.int (g i j)):=by
 intro pins s σ H x y v u Q I B G h;obtain ⟨i,j,rfl,rfl,q⟩:=h;obtain ⟨t,rfl⟩:=B;obtain ⟨t',rfl⟩:=G;exact rule i j t t' s _ _ ⟨.int (g i j),H,I.tok _,⟨_,rfl⟩,q⟩
theorem Qnx {f:aB->aB->Sem aB} {g:Int->Int->Bool}
  (rule:∀ (i j:Int) (t u:Tok) (s:aC) (Q:aB->aC->Prop) (E:aB->aC->Prop),Q (.bool (g i j)) s->aI (aJ X.prog X.w) X.A (f (.int i t) (.int j u)) Q E s) :
  OpR X f (rI0 fun i j=>.bl (g i j)):=by
 intro pins s σ H x y v u Q I B G h;obtain ⟨i,j,rfl,rfl,q⟩:=h;obtain ⟨t,rfl⟩:=B;obtain ⟨t',rfl⟩:=G;exact rule i j t t' s _ _ ⟨.bl (g i j),H,I,rfl,q⟩
def Qzq (i j:Int):Prop:=0 < j/\j < 1073741824
def Qzp (i j:Int):Prop:=0<=j/\j<=1000000/\i.natAbs < 2 ^ 64
def CMul (i j:Int):Prop:=(-(2 ^ 64) < i/\i < 2 ^ 64)\/(-(2 ^ 64) < j/\j < 2 ^ 64)
theorem CMul.ok {i j:Int} (h:CMul i j):IntMulOk i j:=by
 rcases h with ⟨h1,h2⟩ | ⟨h1,h2⟩
 ·exact .of_left (intBits_le_64 h1 h2)
 ·exact .of_right (intBits_le_64 h1 h2)
theorem Qtb:OpR X (aW .Add) (rI0 fun i j=>.int (i + j)):=Qwi fun _ _ _ _ _ _ _ q=>add_int q
theorem Qt4:OpR X (aW .Sub) (rI0 fun i j=>.int (i - j)):=Qwi fun _ _ _ _ _ _ _ q=>sub_int q
theorem Qt7:OpR X (aW .Mult) (rI CMul fun i j=>.int (i * j)):=opI fun _ _ _ _ _ _ _ B q=>mul_int q B.ok
theorem Qnv:OpR X (aW .FloorDiv) (rI Qzq fun i j=>.int (i / j)):=opI fun i j _ _ _ _ _ B q=>by
 have h1:(0:Int) < j:=B.1;have h2:j < 1073741824:=B.2;exact floordiv_int (by omega) (by rw [Int.fdiv_eq_ediv_of_nonneg i (by omega)]; exact q) (.inl (PyProof.noPylong_small (by omega)))
theorem Qt8:OpR X (aW .Mod) (rI (fun _ j=>0 < j) fun i j=>.int (i % j)):=opI fun i j _ _ _ _ _ B q=>by
 have h1:(0:Int) < j:=B;exact mod_int' (by omega) (by rw [Int.fmod_eq_emod_of_nonneg i (by omega)]; exact q)
theorem Qt6:OpR X (aW .Pow) (rI Qzp fun i j=>.int (i ^ j.toNat)):=opI fun _ _ _ _ _ _ _ B q=>pow_int_small B.1 B.2.1 B.2.2 q
theorem unI {f:aB->Sem aB} {g:Int->Int}
  (rule:∀ (i:Int) (t:Tok) (s:aC) (Q:aB->aC->Prop) (E:aB->aC->Prop),Q (.int (g i) s.toks) { s with toks:=s.toks + 1 }->aI (aJ X.prog X.w) X.A (f (.int i t)) Q E s) :
  UnR X f (rU fun i=>.int (g i)):=by
 intro pins s σ H x v Q I B h;obtain ⟨i,rfl,q⟩:=h;obtain ⟨t,rfl⟩:=B;exact rule i t s _ _ ⟨.int (g i),H,I.tok _,⟨_,rfl⟩,q⟩
theorem Qr8:UnR X (unaryOp .USub) (rU fun i=>.int (-i)):=unI fun _ _ _ _ _ q=>neg_int q
end
def Qyw:V->V->Bool
 | .non,.non=>true | .non,.int _=>true | .int _,.non=>true | .non,.bl _=>true | .bl _,.non=>true | .non,.str _=>true | .str _,.non=>true
 | .int _,.int _=>true | .bl _,.bl _=>true | .str _,.str _=>true | .byt _,.byt _=>true
 | .int _,.str _=>true | .str _,.int _=>true | .bl _,.str _=>true | .str _,.bl _=>true
 | _,_=>false
def rNe:R2:=fun x y H Q=>Qyw x y=true/\Q (.bl (!decide (x=y))) H
theorem Qpy {i j:Int}:decide (V.int i=V.int j)=(i == j):=by
 rw [Bool.eq_iff_iff];simp
theorem Qu2 {i j:Bool}:decide (V.bl i=V.bl j)=(i == j):=by
 rw [Bool.eq_iff_iff];simp
theorem Qpx {i j:Str}:decide (V.str i=V.str j)=(i == j):=by
 rw [Bool.eq_iff_iff];simp
theorem Qpz {i j:Array UInt8}:decide (V.byt i=V.byt j)=(i.toList == j.toList):=by
 rw [Bool.eq_iff_iff];cases i;cases j;simp
section
variable {a:aD}
theorem Yw {σ:St} {Q:VK} {k B:Bool} (I:Inv X pins σ H s) (q:Q (.bl k) H) (e:k=B):EP X pins σ Q (.bool B) s:=by
 subst e;exact ⟨.bl k,H,I,rfl,q⟩
theorem Qwd:OpR X (aV .NotEq) rNe:=by
 intro pins s σ H x y v u Q I G B h;obtain ⟨hs,q⟩:=h;cases x with
 | non=>
  cases G;cases y with
  | non=>cases B; exact PySem.EqNone.ne_none_none (Yw I q (by simp))
  | bl j=>cases B; exact PySem.EqNone.ne_none_bool (Yw I q (by simp))
  | int j=>obtain ⟨t',rfl⟩:=B; exact PySem.EqNone.ne_none_int (Yw I q (by simp))
  | str j=>obtain ⟨t',rfl⟩:=B; exact PySem.EqNone.ne_none_str (Yw I q (by simp))
  | _=>exact absurd (show false=true from hs) D2
 | bl i=>
  cases G;cases y with
  | non=>cases B; exact PySem.EqNone.ne_bool_none (Yw I q (by simp))
  | bl j=>cases B; exact ne_bool (Yw I q (congrArg not Qu2))
  | str j=>obtain ⟨t',rfl⟩:=B; exact PySem.EqMixed.ne_bool_str (Yw I q (by simp))
  | _=>exact absurd (show false=true from hs) D2
 | int i=>
  obtain ⟨t,rfl⟩:=G;cases y with
  | non=>cases B; exact PySem.EqNone.ne_int_none (Yw I q (by simp))
  | int j=>obtain ⟨t',rfl⟩:=B; exact ne_int (Yw I q (congrArg not Qpy))
  | str j=>obtain ⟨t',rfl⟩:=B; exact PySem.EqMixed.ne_int_str (Yw I q (by simp))
  | _=>exact absurd (show false=true from hs) D2
 | str i=>
  obtain ⟨t,rfl⟩:=G;cases y with
  | non=>cases B; exact PySem.EqNone.ne_str_none (Yw I q (by simp))
  | bl j=>cases B; exact PySem.EqMixed.ne_str_bool (Yw I q (by simp))
  | int j=>obtain ⟨t',rfl⟩:=B; exact PySem.EqMixed.ne_str_int (Yw I q (by simp))
  | str j=>obtain ⟨t',rfl⟩:=B; exact ne_str (Yw I q (congrArg not Qpx))
  | _=>exact absurd (show false=true from hs) D2
 | byt i=>
  obtain ⟨t,rfl⟩:=G;cases y with
  | byt j=>obtain ⟨t',rfl⟩:=B; exact PySem.W.ne_bytes (Yw I q (congrArg not Qpz))
  | _=>exact absurd (show false=true from hs) D2
 | _=>cases y <;> exact absurd (show false=true from hs) D2
theorem Qwe:OpR X (aV .Lt) (rI0 fun i j=>.bl (decide (i < j))):=Qnx fun _ _ _ _ _ _ _ q=>lt_int q
theorem Qwf:OpR X (aV .LtE) (rI0 fun i j=>.bl (decide (i<=j))):=Qnx fun _ _ _ _ _ _ _ q=>le_int q
theorem Qwg:OpR X (aV .Gt) (rI0 fun i j=>.bl (decide (j < i))):=Qnx fun _ _ _ _ _ _ _ q=>gt_int q
theorem Qwh:OpR X (aV .GtE) (rI0 fun i j=>.bl (decide (j<=i))):=Qnx fun _ _ _ _ _ _ _ q=>ge_int q
theorem Qta:OpR X (aV .Is) (fun x y H Q=>y=.non/\Q (.bl (decide (x=.non))) H):=by
 intro pins s σ H x y v u Q I B G h;obtain ⟨rfl,q⟩:=h;cases G;refine is_none_gen (Yw I q ?_);cases x <;> first
  | (cases B; rfl)
  | (obtain ⟨t,rfl⟩:=B; rfl)
theorem OpR.or {J:R2} (h:OpR X f r) (h':OpR X f J):OpR X f (fun x y H Q=>r x y H Q\/J x y H Q):=by
 intro pins s σ H x y v u Q I B G q;rcases q with q | q
 ·exact h pins s σ H x y v u Q I B G q
 ·exact h' pins s σ H x y v u Q I B G q
theorem Q5p (b:aD) (h:op≠.In:=by decide) (h2:op≠.NotIn:=by decide):bF op b=false:=by
 have e1:(op == CmpOp.In)=false:=by cases op <;> first | rfl | exact absurd rfl h
 have e2:(op == CmpOp.NotIn)=false:=by cases op <;> first | rfl | exact absurd rfl h2
 cases b <;> simp [bF,e1,e2]
theorem Qnn (J:OpR X (aV op) r) (U:PE X a ta) (Z:PE X b tb) (O:bF op b=false):PE X (.Compare a [op] [b] pos) (tOp r ta tb):=by
 intro pins s σ H Q I h;exact wpAny_Compare1 (Qug U Z I h fun v u s2 x y H2 Y B G q=>J pins s2 σ H2 x y v u Q Y B G q) O
def Qqc (t:TE):TT:=fun σ H Q=>t σ H fun x H'=>∃ k,x=.bl k/\Q k H'
theorem Q93 (G:OpR X (aV op) r) (O:PE X a ta) (hb:PE X b tb) (J:bF op b=false):PT X (.Compare a [op] [b] pos) (Qqc (tOp r ta tb)):=by
 intro pins s σ H Q I h;refine wpAny_isTrue_Compare1 (thn (O pins s σ H _ I h) fun v s1 ⟨x,H1,I1,Y,q1⟩=>thn (hb pins s1 σ H1 _ I1 q1) fun u s2 ⟨y,H2,Z,q,q2⟩=>
  thn (G pins s2 σ H2 x y v u _ Z Y q q2) fun c s3 ⟨z,B,I3,U,k,e,q3⟩=>?_) J
 subst e;cases U;exact ar ⟨B,I3,q3⟩
def Qbz (r r':R2) (ta tb tc:TE):TE:=fun σ H Q=>ta σ H fun x H1=>tb σ H1 fun y H2=>r x y H2 fun z H3=>∃ k,z=.bl k /\
 (if k=true then tc σ H3 fun w' H4=>r' y w' H4 Q else Q (.bl false) H3)
theorem Qin {q:CmpOp} {U:R2} (ho:OpR X (aV op) r) (B:OpR X (aV q) U) (ha:PE X a ta) (hb:PE X b tb) (hc:PE X c tc)
  (hm:lastMarks [op,q] [b,c]=false:=by with_unfolding_all rfl):PE X (.Compare a [op,q] [b,c] pos) (Qbz r U ta tb tc):=by
 intro pins s σ H Q I h;refine Compare_chain (thn (ha pins s σ H _ I h) fun v s1 ⟨x,H1,I1,r1,q1⟩=>chain_link (thn (hb pins s1 σ H1 _ I1 q1) fun u s2 ⟨y,H2,I2,J,q2⟩=>
  thn (ho pins s2 σ H2 x y v u _ I2 r1 J q2) fun d s3 ⟨z,G,O,r3,k,e,q3⟩=>?_)) hm
 subst e;cases r3;refine ar ?_;cases k with
 | false=>exact ite_ff ⟨.bl false,G,O,rfl,q3⟩
 | true=>exact ite_tt (chain_last (thn (hc pins s3 σ G _ O q3) fun w' Z ⟨Y,H4,I4,r4,q4⟩=>B pins Z σ H4 y Y u w' Q I4 J r4 q4))
theorem Qi7 {q:CmpOp} {U:R2} (ho:OpR X (aV op) r) (B:OpR X (aV q) U) (ha:PE X a ta) (hb:PE X b tb) (hc:PE X c tc)
  (hm:lastMarks [op,q] [b,c]=false:=by with_unfolding_all rfl):PT X (.Compare a [op,q] [b,c] pos) (Qqc (Qbz r U ta tb tc)):=by
 intro pins s σ H Q I h;refine isTrue_chain (thn (ha pins s σ H _ I h) fun v s1 ⟨x,H1,I1,r1,q1⟩=>test_link (thn (hb pins s1 σ H1 _ I1 q1) fun u s2 ⟨y,H2,I2,J,q2⟩=>
  thn (ho pins s2 σ H2 x y v u _ I2 r1 J q2) fun d s3 ⟨z,G,O,r3,k,e,q3⟩=>?_)) hm
 subst e;cases r3;refine ar ?_;cases k with
 | false=>
  obtain ⟨k',e',q'⟩:=q3;cases e';exact ite_ff ⟨G,O,q'⟩
 | true=>
  refine ite_tt (test_last (thn (hc pins s3 σ G _ O q3) fun w' s4 ⟨Z,H4,I4,r4,q4⟩=>thn (B pins s4 σ H4 y Z u w' _ I4 J r4 q4) fun d' s5 ⟨z2,Y,I5,r5,k2,e2,q5⟩=>?_))
  subst e2;cases r5;exact ar ⟨Y,I5,q5⟩
theorem Q34:(sizeLine:Nat) < 2 ^ 63:=by rw [sizeLine_eq]; decide
theorem Qci:OpR X (aW .Add) (fun x y H Q=>∃ i j,x=.str i/\y=.str j/\i.length + j.length<=sizeLine/\Q (.str (i ++ j)) H):=by
 intro pins s σ H x y v u Q I B G h;obtain ⟨i,j,rfl,rfl,hz,q⟩:=h;obtain ⟨t,rfl⟩:=B;obtain ⟨t',rfl⟩:=G;exact add_str (fun t' tk=>⟨.str (i ++ j),H,I.tok _,⟨_,rfl⟩,q⟩) hz
theorem Q1w {x:V} (r:Vals [x] us):∃ u,us=[u]/\RelV x u:=by
 cases r with
 | cons B q=>cases q; exact ⟨_,rfl,B⟩
theorem Qdc {x:V} (r:Vals [x,y] us):∃ u q,us=[u,q]/\RelV x u/\RelV y q:=by
 cases r with
 | cons I B=>
  cases B with
  | cons G J=>cases J; exact ⟨_,_,rfl,I,G⟩
theorem Qgm (G:X.calm=true):K1 X (.builtin "max") (fun xs H Q=>∃ i j,xs=[.int i,.int j]/\Q (.int (if j > i then j else i)) H):=by
 intro pins s σ H xs us Q I r h;obtain ⟨i,j,rfl,q⟩:=h;obtain ⟨u,J,rfl,⟨t,rfl⟩,⟨t',rfl⟩⟩:=Qdc r;refine max_two_ints (I.ok.hd G) fun h' tk k=>⟨_,H,I.kept k,?_,q⟩
 by_cases B:j > i
 ·rw [bN B,bN B]; exact ⟨_,rfl⟩
 ·rw [bO B,bO B]; exact ⟨_,rfl⟩
theorem Qgj (G:X.calm=true):K1 X (.builtin "min") (fun xs H Q=>∃ i j,xs=[.int i,.int j]/\Q (.int (if j < i then j else i)) H):=by
 intro pins s σ H xs us Q I r h;obtain ⟨i,j,rfl,q⟩:=h;obtain ⟨u,J,rfl,⟨t,rfl⟩,⟨t',rfl⟩⟩:=Qdc r;refine min_two_ints (I.ok.hd G) fun h' tk k=>⟨_,H,I.kept k,?_,q⟩
 by_cases B:j < i
 ·rw [bN B,bN B]; exact ⟨_,rfl⟩
 ·rw [bO B,bO B]; exact ⟨_,rfl⟩
end
structure ObjM (h:Heap) (x dx C:aA) (mA:Str->Option aB):Prop where
 obj:h.get? x=some (PySem.W.instObj C dx)
 ns:h.Ns1 dx mA
 ne:dx≠x
theorem Q86 {h:Heap} (n:h.Ns1 dx mA):∃ G,h.get? dx=some G/\∀ name,PySem.W.lookIn name G=some (mA name):=by
 obtain ⟨o,es,Z,I,hd,Y,_,J⟩:=n;refine ⟨o,I,fun name=>?_⟩;have e:=J name;unfold nsFind findBy at e;rw [<- Array.find?_toList] at e;unfold PySem.W.lookIn;rw [hd];dsimp only
 split
 ·rename_i y q;rw [q] at e;exact congrArg some e
 ·rename_i q;rw [q] at e;have a:es.toList.any (·.refKey)=false:=by
   rw [List.any_eq_false];intro y U;obtain ⟨z,t,B⟩:=Y y (Array.mem_toList_iff.mp U);simp [DictEntry.refKey,B]
  have O:¬ es.toList.any (·.refKey)=true:=by rw [a]; exact D2
  rw [bO O];exact congrArg some e
theorem ObjM.look {h:Heap} {x C:aA} (I:ObjM h x dx C mA):∃ q,PySem.W.InstAt h x (PySem.W.instObj C dx) C (some q)/\∀ name,PySem.W.lookIn name q=some (mA name):=
 let ⟨q,B,hl⟩:=Q86 I.ns
 ⟨q,⟨I.obj,rfl,rfl,B⟩,hl⟩
variable {prog:aN} {A:aQ} {K:PySem.W.Frag} {dx C f:aA} {mA:Str->Option aB} {name:Str} {v:aB}
section
variable {w:aL} {x:aA}
theorem Qps {q:Bool} {Q:aB->aC->Prop} (X:K.In s.heap) (I:ObjM s.heap x dx C mA) (Y:PySem.W.plainGet K C name=true) (G:PySem.W.hasDictIn K C=true)
  (O:PySem.W.findIn K (.ref C) name=some none) (U:mA name=some v) (B:PySem.W.handedIn v=true) (h:Q v { s with toks:=s.toks + 1 }) :
  aI (aJ prog w) A (getAttr (.ref x) name q) Q E s:=by
 obtain ⟨Z,J,hl⟩:=I.look;exact PySem.W.get_value X J (PySem.W.plainGet_of Y).1 (PySem.W.findObj_own G O rfl (by rw [hl,U])) B h
theorem Qjj {pl:Sem Bool} {Q:aB × List aB->aC->Prop} (X:K.In s.heap) (I:ObjM s.heap x dx C mA) (q:PySem.W.plainGet K C name=true)
  (O:PySem.W.findIn K (.ref C) name=some (some (.ref f))) (B:PySem.W.isFn K (.ref f)=true) (G:mA name=none) (h:Q (.ref f,[.ref x]) s) :
  aI (aJ prog w) A (getMethod (.ref x) name pl) Q E s:=by
 obtain ⟨U,J,hl⟩:=I.look;exact PySem.W.method_fn X J (PySem.W.plainGet_of q).1 (PySem.W.plainGet_of q).2 O (beq_iff_eq.mp B) (by show (PySem.W.lookIn name U).map (·.isSome)=some false; rw [hl,G]; rfl) h
theorem Qmr {ns:List Str} {Q:Unit->aC->Prop} (X:K.In s.heap) (I:ObjM s.heap x dx C mA)
  (hs:PySem.W.findIn K (.ref C) "__setattr__" = some (some (.builtin "object.__setattr__"))) (hp:PySem.W.plainOver K C=true) (ht:PySem.W.takerIn K C name=some none) (hh:PySem.W.hasDictIn K C=true)
  (hw:PySem.Within mA ns) (a2:ns.length<=sizeLine)
  (h:∀ h',ObjM h' x dx C (fun y=>if y=name then some v else mA y)->Heap.SameBut dx s.heap h'->Q () { s with heap:=h',toks:=s.toks + 2 }) :
  aI (aJ prog w) A (setAttr (.ref x) name v) Q E s:=by
 obtain ⟨od,J,hl⟩:=I.look;refine PySem.W.set_plain X J hs (PySem.W.osa_open (s:={ s with toks:=s.toks + 1 }) (r:=none) X J hp ht fun b=>?_)
 obtain ⟨cd,hc,U⟩:=PySem.W.any_some hh;have hx:s.heap.get? x=some ⟨.ref C,some dx,.plain,#[]⟩:=I.obj;refine aF (aR (aF (aF (wpAny_loadPart hx (aF (PySem.W.Looks.here (s:={ s with toks:=s.toks + 1 }) (PySem.W.looks_clsIn X hc) ?_))))));rw [U];refine aR (a:=some dx) (aF (aR (aF ?_)));refine wpAny_nsSet1 (s:={ s with toks:=s.toks + 1 }) I.ns fun h' B q=>?_
 obtain ⟨oD,Z,a3,Y,O,G⟩:=B.count (PySem.Within.cons name v hw);refine aF (wpAny_lookBehind Y (by rw [O]; exact pastItsLine_dict (F0 G (by rw [D7]; omega))) ?_);exact aR (h _ ⟨(q.2 _ (Ne.symm I.ne)).trans I.obj,B,I.ne⟩ q)
theorem Qj1 {R:Result->aC->Prop} {vs:List aB} {kw:List (Str × aB)} (X:K.In s.heap) (q:PySem.W.makesIn K C=true)
  (hi:PySem.W.findIn K (.ref C) "__init__" = some (some (.ref f))) (B:PySem.W.typeIn K (.ref f)=some (.type "function"))
  (h:codeAny (aJ prog w) (A.under (.builtin "type.__call__" ⟨.ref C :: vs,kw⟩)) (.call (.ref f) ⟨.ref (s.heap.objs.size + 1) :: vs,kw⟩) (PySem.W.InitBack (s.heap.objs.size + 1) R)
   { s with heap:=(s.heap.push PySem.W.emptyDict).push (PySem.W.instObj C s.heap.objs.size) }) :
  codeAny (aJ prog w) A (.call (.ref C) ⟨vs,kw⟩) R s:=by
 obtain ⟨G,g,d,t,os⟩:=s;exact PySem.W.make_core (PySem.W.makes_of X q) (PySem.W.looks_findIn X hi) (fun self=>PySem.W.bind_fn X self B) (.inl rfl) h
end
def ym (f:Str) (v:V):List (Str × V)->List (Str × V)
 | []=>[(f,v)]
 | (g,x) :: r=>if g=f then (g,v) :: r else (g,x) :: ym f v r
theorem Q3g (f g:Str) (v:V):∀ fs:List (Str × V),(ym f v fs).lookup g=if g=f then some v else fs.lookup g
 | []=>by
  show List.lookup g [(f,v)]=_
  by_cases h:g=f
  ·have q:(g == f)=true:=beq_iff_eq.mpr h;simp only [List.lookup,q,bN h]
  ·have q:(g == f)=false:=beq_eq_false_iff_ne.mpr h;simp only [List.lookup,q,bO h]
 | (k,x) :: r=>by
  have G:=Q3g f g v r;rw [show ym f v ((k,x) :: r)=(if k=f then (k,v) :: r else (k,x) :: ym f v r) from rfl]
  by_cases B:k=f
  ·rw [bN B]
   by_cases h:g=k
   ·have q:(g == k)=true:=beq_iff_eq.mpr h;simp only [List.lookup,q,bN (h.trans B)]
   ·have q:(g == k)=false:=beq_eq_false_iff_ne.mpr h;simp only [List.lookup,q,bO (fun e:g=f=>h (e.trans B.symm))]
  ·rw [bO B]
   by_cases h:g=k
   ·have q:(g == k)=true:=beq_iff_eq.mpr h;simp only [List.lookup,q,bO (fun e:g=f=>B (h.symm.trans e))]
   ·have q:(g == k)=false:=beq_eq_false_iff_ne.mpr h;simp only [List.lookup,q];exact G
theorem Q37 (f:Str) (v:V):∀ fs:List (Str × V),f∈(ym f v fs).map (·.1)/\∀ g,g∈fs.map (·.1)->g∈(ym f v fs).map (·.1)
 | []=>⟨by simp [ym],fun g h=>by simp at h⟩
 | (k,x) :: r=>by
  obtain ⟨i1,i2⟩:=Q37 f v r;rw [show ym f v ((k,x) :: r)=(if k=f then (k,v) :: r else (k,x) :: ym f v r) from rfl]
  by_cases q:k=f
  ·rw [bN q];subst q;exact ⟨by simp,fun g h=>by simpa using h⟩
  ·rw [bO q];refine ⟨?_,fun g h=>?_⟩
   ·rw [F2];exact D1 _ i1
   ·rw [F2] at h ⊢;rcases D4.mp h with e | e
    ·exact D4.mpr (.inl e)
    ·exact D1 _ (i2 g e)
theorem Q3h (f:Str) (v:V):∀ fs:List (Str × V),(ym f v fs).length<=fs.length + 1
 | []=>by simp [ym]
 | (k,x) :: r=>by
  have B:=Q3h f v r;rw [show ym f v ((k,x) :: r)=(if k=f then (k,v) :: r else (k,x) :: ym f v r) from rfl]
  by_cases q:k=f
  ·rw [bN q,D7,D7]; omega
  ·rw [bO q,D7,D7]; omega
theorem RelO.some_of {v:V} {o:Option aB} (r:RelO (some v) o):∃ u,o=some u/\RelV v u:=by
 cases o with
 | none=>exact (show False from r).elim
 | some u=>exact ⟨u,rfl,r⟩
theorem RelO.none_of {o:Option aB} (r:RelO none o):o=none:=by
 cases o with
 | none=>rfl
 | some u=>exact (show False from r).elim
theorem Qg9 {v:V} {u:aB} (r:RelV v u):PySem.W.handedIn u=true:=by
 cases v with
 | non=>cases (show u=Value.none from r); rfl
 | bl b=>cases (show u=Value.bool b from r); rfl
 | int i=>obtain ⟨t,e⟩:=(show ∃ t,u=Value.int i t from r); cases e; rfl
 | str x=>obtain ⟨t,e⟩:=(show ∃ t,u=Value.str x t from r); cases e; rfl
 | byt b=>obtain ⟨t,e⟩:=(show ∃ t,u=Value.bytes b t from r); cases e; rfl
 | flt b=>obtain ⟨t,e⟩:=(show ∃ t,u=Value.float b t from r); cases e; rfl
 | ref a=>cases (show u=Value.ref a from r); rfl
 | ty n=>cases (show u=Value.type n from r); rfl
section
variable {w:aL} {h:Heap} {fs fs':List (Str × V)}
theorem Q4i (hok:HOk P w H h) (e:H a=some (.ins C dx fs)):∃ mA,ObjM h a dx C mA/\(∀ f,RelO (fs.lookup f) (mA f))/\PySem.Within mA (fs.map (·.1))/\fs.length<=1000/\H dx=some (.own a):=by
 obtain ⟨d,z,ne,ob,mA,n,r,q⟩:=(show ObjOk P w H h a (.ins C dx fs) from hok a _ e);exact ⟨mA,⟨ob,n,ne⟩,r,q,z,d⟩
end
structure Cls (K:PySem.W.Frag) (C:aA):Prop where
 pg:PySem.W.plainGet K C Str.empty=true
 hd:PySem.W.hasDictIn K C=true
 po:PySem.W.plainOver K C=true
 sa:PySem.W.findIn K (.ref C) "__setattr__" = some (some (.builtin "object.__setattr__"))
theorem Cls.get (c:Cls K C) (f:Str):PySem.W.plainGet K C f=true:=c.pg
def NoAttr (K:PySem.W.Frag) (C:aA) (f:Str):Prop:=PySem.W.findIn K (.ref C) f=some none
theorem NoAttr.taker {f:Str} (n:NoAttr K C f):PySem.W.takerIn K C f=some none:=by
 unfold PySem.W.takerIn;rw [show PySem.W.findIn K (.ref C) f=some none from n];rfl
structure Meth (K:PySem.W.Frag) (C:aA) (m:Str) (f:aA):Prop where
 at_:PySem.W.findIn K (.ref C) m=some (some (.ref f))
 fn:PySem.W.isFn K (.ref f)=true
 kp:PySem.W.keepIn K (.ref f)=true
section
variable {σ:St} {fs:List (Str × V)} {f:Str} {v:V}
theorem Qcy {b:Bool} {Q:aB->aC->Prop} (I:Inv X pins σ H s) (e:H a=some (.ins C dx fs)) (c:Cls X.K C) (n:NoAttr X.K C f) (l:fs.lookup f=some v)
  (h:∀ u s',Inv X pins σ H s'->RelV v u->Q u s'):aI (aJ X.prog X.w) A (getAttr (.ref a) f b) Q E s:=by
 obtain ⟨mA,O,r,_,_,_⟩:=Q4i I.hok e;obtain ⟨u,B,q⟩:=RelO.some_of (v:=v) (o:=mA f) (by rw [<- l]; exact r f);exact Qps I.kIn O (c.get f) c.hd n B (Qg9 q) (h u _ (I.tok _) q)
theorem Q6g {m:Str} {g:aA} {pl:Sem Bool} {Q:aB × List aB->aC->Prop} (I:Inv X pins σ H s) (e:H a=some (.ins C dx fs)) (c:Cls X.K C) (k:Meth X.K C m g) (l:fs.lookup m=none)
  (h:Q (.ref g,[.ref a]) s):aI (aJ X.prog X.w) A (getMethod (.ref a) m pl) Q E s:=by
 obtain ⟨mA,O,r,_,_,_⟩:=Q4i I.hok e;have q:mA m=none:=RelO.none_of (by rw [<- l]; exact r m);exact Qjj I.kIn O (c.get m) k.at_ k.fn q h
theorem Qc6 {u:aB} {Q:Unit->aC->Prop} (I:Inv X pins σ H s) (e:H a=some (.ins C dx fs)) (c:Cls X.K C) (n:NoAttr X.K C f) (hl:fs.length < 1000) (J:RelV y u)
  (h:∀ s',Inv X pins σ (upd H a (.ins C dx (ym f y fs))) s'->Q () s'):aI (aJ X.prog X.w) A (setAttr (.ref a) f u) Q E s:=by
 obtain ⟨mA,O,r,wi,_,G⟩:=Q4i I.hok e;have hz:(fs.map (·.1)).length<=sizeLine:=by rw [O2,sizeLine_eq]; omega
 refine Qmr I.kIn O c.sa c.po n.taker c.hd wi hz fun h' B Y=>h _ ?_
 have hd:∃ o,h'.get? dx=some o:=let ⟨o,_,_,e',_⟩:=B.ns; ⟨o,e'⟩;refine I.write (x:=a) (e:=dx) (by rw [e]; exact True.intro) (.inr G) (fun b q Z z=>(Y.2 b Z).trans z) hd ?_
 refine ⟨by rw [Qb O.ne]; exact G,?_,O.ne,B.obj,_,B.ns,fun g=>?_,fun g U=>?_⟩
 ·have:=Q3h f y fs; omega
 ·show RelO ((ym f y fs).lookup g) (if g=f then some u else mA g);rw [Q3g]
  by_cases q:g=f
  ·rw [bN q,bN q]; exact J
  ·rw [bO q,bO q]; exact r g
 ·by_cases q:g=f
  ·rw [q]; exact (Q37 f y fs).1
  ·refine (Q37 f y fs).2 g (wi g fun z=>U ?_);show (if g=f then some u else mA g)=none;rw [bO q]; exact z
theorem Inv.made (I:Inv X pins σ H s):Inv X pins σ (upd (upd H s.heap.objs.size (.own (s.heap.objs.size + 1))) (s.heap.objs.size + 1) (.ins C s.heap.objs.size []))
  { s with heap:=(s.heap.push PySem.W.emptyDict).push (PySem.W.instObj C s.heap.objs.size) }:=by
 have e1:(s.heap.push PySem.W.emptyDict).get? s.heap.objs.size=some PySem.W.emptyDict:=D8 s.heap rfl;have e2:((s.heap.push PySem.W.emptyDict).push (PySem.W.instObj C s.heap.objs.size)).get? (s.heap.objs.size + 1)=some (PySem.W.instObj C s.heap.objs.size):=by
  have:=D8 (s.heap.push PySem.W.emptyDict) (o:=PySem.W.instObj C s.heap.objs.size) rfl
  rwa [F4] at this
 have e3:(s.heap.push PySem.W.emptyDict).Ns s.heap.objs.size (fun _=>none):=⟨PySem.W.emptyDict,#[],_,e1,rfl,(fun e B=>absurd B (by simp)),fun _=>rfl⟩;have J:=I.laid (a:=s.heap.objs.size) (o:=.own (s.heap.objs.size + 1)) (h':=s.heap.push PySem.W.emptyDict) (t':=s.toks) (fun b u q=>O1 _ q) (O8 _) ⟨_,e1⟩;refine J.laid (a:=s.heap.objs.size + 1) (o:=.ins C s.heap.objs.size []) (t':=s.toks) (fun b u q=>O1 _ q) (Nat.le_of_eq (F4 _ _)) ?_;have ne:s.heap.objs.size≠s.heap.objs.size + 1:=E9 (Nat.lt_succ_self _);refine ⟨by rw [Qb ne,Qj],Nat.zero_le _,ne,e2,fun _=>none,(Heap.Ns1.of_empty e3).at fun o q=>O1 _ q,fun _=>True.intro,fun y G=>absurd rfl G⟩
theorem Qep {prog:aN} {w:aL} {env:Env} {e:aD} {pos:Pos} {s:aC} {Q:aB->aC->Prop} (B:ak e f env (aM e env)=aM e env)
  (h:aI (aJ prog w) A (aM e env) (fun o q=>aI (aJ prog w) A (getAttr o f true) Q E q) E s):aI (aJ prog w) A (aM (.Attribute e f pos) env) Q E s:=
 Attribute_any_ h (by rw [arm_eval_Attribute,B])
end
def Qyu (K:PySem.W.Frag) (ta:TE) (f:Str):TE:=fun σ H Q=>ta σ H fun x H1=>∃ a C dx fs v,x=.ref a/\H1 a=some (.ins C dx fs)/\Cls K C/\NoAttr K C f/\fs.lookup f=some v/\Q v H1
def Qyx (K:PySem.W.Frag) (ta tv:TE) (f:Str):TS:=fun D σ H=>tv σ H fun y H1=>ta σ H1 fun x H2=>∃ a C dx fs,x=.ref a/\H2 a=some (.ins C dx fs)/\Cls K C/\NoAttr K C f/\fs.length < 1000 /\
 D.nx σ (upd H2 a (.ins C dx (ym f y fs)))
variable {value:aD} {pos' tpos:Pos} {tv:TE}
section
variable {o e:aD} {f:Str}
theorem Qsv (G:PE X e ta) (Y:ak e f X.env (aM e X.env)=aM e X.env):PE X (.Attribute e f pos) (Qyu X.K ta f):=by
 intro pins s σ H Q I h;refine Qep Y (thn (G pins s σ H _ I h) fun u s1 ⟨x,H1,Z,B,a,C,dx,fs,v,ex,O,c,n,l,q⟩=>?_)
 subst ex;obtain rfl:u=Value.ref a:=B;exact Qcy Z O c n l fun u' s2 U J=>⟨v,H1,U,J,q⟩
theorem Qsk (U:PE X o ta) (O:PE X value tv) (hs:swapsWith value (some (.Attribute o f pos')) pos.line X.env=pure false):PS X (.Assign [.Attribute o f pos'] value pos) (Qyx X.K ta tv f):=by
 intro pins s σ H D I h;refine plainObj_wpAny_Assign_Attribute (thn (O pins s σ H _ I h) fun u s1 ⟨y,H1,I1,J,q⟩=>thn (U pins s1 σ H1 _ I1 q) fun B s2 ⟨x,H2,I2,G,a,C,dx,fs,ex,Y,c,n,l,q2⟩=>?_) hs
 subst ex;obtain rfl:B=Value.ref a:=G;exact Qc6 I2 Y c n l J fun s3 Z=>⟨σ,_,Z,q2⟩
end
variable {Q:aB->aC->Prop}
section
variable {σ:St} {c:aB} {b:Bool}
inductive TyOf (K:PySem.W.Frag) (H:Hp):V->aB->Prop where
 | non:TyOf K H .non (.type "NoneType")
 | bl (x:Bool):TyOf K H (.bl x) (.type "bool")
 | int (i:Int):TyOf K H (.int i) (.type "int")
 | str (x:Str):TyOf K H (.str x) (.type "str")
 | flt (x:UInt64):TyOf K H (.flt x) (.type "float")
 | lst {a:aA} {xs:List V} (e:H a=some (.lst xs)):TyOf K H (.ref a) (.type "list")
 | frz {a:aA} {o:Obj} {xs:List V} (e:H a=some (.frz o (.lst xs))):TyOf K H (.ref a) (.type "list")
 | tup {a:aA} {xs:List V} (e:H a=some (.tup xs)):TyOf K H (.ref a) (.type "tuple")
 | dK {a:aA} {kvs:List (Key × V)} (e:H a=some (.dK kvs)):TyOf K H (.ref a) (.type "dict")
 | dT {a:aA} {kvs:List (List Key × V)} (e:H a=some (.dT kvs)):TyOf K H (.ref a) (.type "dict")
 | ins {a C dx:aA} {fs:List (Str × V)} (e:H a=some (.ins C dx fs)) (cl:Cls K C) (ha:PySem.W.findIn K (.ref C) "__class__" = some (some (.builtin "object.__class__")))
   (hn:PySem.W.specialIn K (.builtin "object.__class__") "__get__" = some (some (.builtin "getset_descriptor.__get__"))) (htk:PySem.W.takesIn K (.builtin "object.__class__")=some true)
   (hm:PySem.W.mroIn K C (.type "object")=some true):TyOf K H (.ref a) (.ref C)
theorem Qg5 {x:V} {u t:aB} (I:Inv X pins σ H s) (B:RelV x u) (ty:TyOf X.K H x t) (e:PySem.W.kitOne X.K t c=some b) (h:∀ tk,Q (.bool b) { s with toks:=tk }) :
  aI (aJ X.prog X.w) A (call (.builtin "isinstance") [u,c]) Q E s:=by
 cases ty with
 | non=>cases (show u=Value.none from B); exact PySem.W.kia_one PySem.W.kitx_none I.kIn True.intro e (fun z=>nomatch z) h
 | bl y=>cases (show u=Value.bool y from B); exact PySem.W.kia_one PySem.W.kitx_bool I.kIn True.intro e (fun z=>nomatch z) h
 | int i=>obtain ⟨t,q⟩:=(show ∃ t,u=Value.int i t from B); cases q; exact PySem.W.kia_one PySem.W.kitx_int I.kIn True.intro e (fun z=>nomatch z) h
 | str y=>obtain ⟨t,q⟩:=(show ∃ t,u=Value.str y t from B); cases q; exact PySem.W.kia_one PySem.W.kitx_str I.kIn True.intro e (fun z=>nomatch z) h
 | flt y=>obtain ⟨t,q⟩:=(show ∃ t,u=Value.float y t from B); cases q; exact PySem.W.kia_one PySem.W.kitx_float I.kIn True.intro e (fun z=>nomatch z) h
 | @lst a xs G=>
  cases (show u=Value.ref a from B);obtain ⟨_,_,n,_,h1⟩:=(show ObjOk X.prog X.w H s.heap a (.lst xs) from I.hok a _ G);exact PySem.W.kia_one PySem.W.kitx_list I.kIn ⟨_,h1,rfl⟩ e (fun z=>nomatch z) h
 | @frz a ob xs G=>
  cases (show u=Value.ref a from B);obtain ⟨_,_,_,n,_,h1⟩:=(show ObjOk X.prog X.w H s.heap a (.frz ob (.lst xs)) from I.hok a _ G);exact PySem.W.kia_one PySem.W.kitx_list I.kIn ⟨_,h1,rfl⟩ e (fun z=>nomatch z) h
 | @tup a xs G=>
  cases (show u=Value.ref a from B);obtain ⟨_,_,_,p⟩:=(show ObjOk X.prog X.w H s.heap a (.tup xs) from I.hok a _ G);obtain ⟨o,h1,h2,_⟩:=p;exact PySem.W.kia_one PySem.W.kitx_tuple I.kIn ⟨o,h1,h2⟩ e (fun z=>nomatch z) h
 | @dK a kvs G=>
  cases (show u=Value.ref a from B);obtain ⟨_,_,vs,_,p⟩:=(show ObjOk X.prog X.w H s.heap a (.dK kvs) from I.hok a _ G);obtain ⟨o,es,Y,h1,h2,_⟩:=p;exact PySem.W.kia_one PySem.W.kitx_dict I.kIn ⟨o,h1,h2.1⟩ e (fun z=>nomatch z) h
 | @dT a kvs G=>
  cases (show u=Value.ref a from B);obtain ⟨_,_,xs,_,o,es,Y,h1,h2,_⟩:=(show ObjOk X.prog X.w H s.heap a (.dT kvs) from I.hok a _ G);exact PySem.W.kia_one PySem.W.kitx_dict I.kIn ⟨o,h1,h2.1⟩ e (fun z=>nomatch z) h
 | @ins a C dx fs G cl ha Z U hm=>
  cases (show u=Value.ref a from B);obtain ⟨mA,O,_⟩:=Q4i I.hok G;obtain ⟨od,J,_⟩:=O.look;exact PySem.W.kia_one (PySem.W.kitx_own (cl.get _) cl.hd ha Z U hm) I.kIn J e (fun z=>nomatch z) h
end
structure Room (k:Nat) (A:aQ):Prop where
 hd:A.handled=none
 dp:A.depth + 3 * k + 5 < recursionLimit
 un:A.units + 16 * k + 200 < aa
theorem Room.mono {j k:Nat} (r:Room k A) (h:j<=k):Room j A:=⟨r.hd,by have:=r.dp; omega,by have:=r.un; omega⟩
theorem Room.deeper {k:Nat} (r:Room (k + 1) A) (env:Env):Room k (A.deeper env):=
 ⟨r.hd,by have:=r.dp; show A.depth + 1 + 3 * k + 5 < _; omega,by have:=r.un; show A.units + 3 + 16 * k + 200 < _; omega⟩
theorem Qct :(A.under (.builtin "type.__call__" ⟨.ref C :: us,kw⟩)).depth=A.depth + 1:=by
 first | rfl | simp [Around.under,Code.weight,Code.isCreation,Code.isGuard,Code.isCaller,Code.frames,Code.isFrame,guardIds]
theorem Qcs :(A.under (.builtin "type.__call__" ⟨.ref C :: us,kw⟩)).units=A.units + 1:=by
 first | rfl | simp [Around.under,Code.cUnits,Code.frames,Code.isFrame]
theorem Room.make {k:Nat} (r:Room (k + 1) A) (C:aA) (us:List aB) (kw:List (Str × aB)):Room k (A.under (.builtin "type.__call__" ⟨.ref C :: us,kw⟩)):=
 ⟨r.hd,by have:=r.dp; rw [Qct]; omega,by have:=r.un; rw [Qcs]; omega⟩
theorem Room.depth {k:Nat} (r:Room k A):A.depth < recursionLimit:=by have:=r.dp; omega
theorem Room.units {k:Nat} (r:Room k A):A.units + 64 < aa:=by have:=r.un; omega
def Qri:TA:=fun _ H Q=>Q [] H
def Qqf (ta:TE) (tr:TA):TA:=fun σ H Q=>ta σ H fun x H1=>tr σ H1 fun xs H2=>Q (x :: xs) H2
variable {es:List aD}
section
variable {e:aD} {t:TA}
theorem Yg:PA X [] Qri:=fun _ _ _ _ H Q I h=>Calls.spliced_nil ⟨[],H,I,.nil,h⟩
theorem Qu (B:PE X e te) (J:PA X es t) (hs:aO (e :: es) X.env=(false,aM e X.env) :: aO es X.env:=by rfl):PA X (e :: es) (Qqf te t):=by
 intro pos pins s σ H Q I h;rw [hs];show aI _ _ (spliced ((false,aM e X.env) :: aU pos (aO es X.env))) _ _ s;refine Calls.spliced_cons (thn (B pins s σ H _ I h) fun u s1 ⟨x,H1,U,G,q1⟩=>?_)
 exact thn (J pos pins s1 σ H1 _ U q1) fun us s2 ⟨xs,H2,O,q,q2⟩=>⟨x :: xs,H2,O,.cons G q,q2⟩
def Qyq (t:TA):TE:=fun σ H Q=>t σ H fun xs H1=>xs.length<=sizeLine/\∀ p,H1 p=none->Q (.ref p) (upd H1 p (.tup xs))
def Qve (t:TA):TE:=fun σ H Q=>t σ H fun xs H1=>xs.length<=sizeLine/\∀ p,H1 p=none->Q (.ref p) (upd H1 p (.lst xs))
theorem Qss {x1} (h:PA X es t):PE X (.Tuple es x1 pos) (Qyq t):=by
 intro pins s σ H Q I G;refine wpAny_Tuple_spliced (thn (h pos pins s σ H _ I G) fun us s1 ⟨xs,H1,B,r,z,q⟩=>⟨by rw [<- r.length]; exact z,?_⟩)
 have J:H1 s1.heap.objs.size=none:=B.hok.fresh (O8 _);refine ⟨.ref s1.heap.objs.size,upd H1 s1.heap.objs.size (.tup xs),B.laid (t':=s1.toks) (fun b u e=>O1 _ e) (O8 _) ?_,rfl,q _ J⟩;exact ⟨z,us,r,⟨_,D8 _ rfl,rfl,_,rfl⟩⟩
theorem Qcg (h:PA X es t):PE X (.List es pos) (Qve t):=by
 intro pins s σ H Q I G;refine wpAny_List_spliced (thn (h pos pins s σ H _ I G) fun us s1 ⟨xs,H1,B,r,z,q⟩=>⟨by rw [<- r.length]; exact z,?_⟩)
 have J:H1 s1.heap.objs.size=none:=B.hok.fresh (O8 _);refine ⟨.ref s1.heap.objs.size,upd H1 s1.heap.objs.size (.lst xs),B.laid (t':=s1.toks) (fun b u e=>O1 _ e) (O8 _) ?_,rfl,q _ J⟩;exact ⟨z,us,0,r,D8 _ rfl⟩
end
abbrev Sp:=List V->Hp->VK->XK->Prop
abbrev CXT:=List Env->Hp->aC->XK->aB->aC->Prop
structure Env0 (P:aN) (w:aL) (K:PySem.W.Frag) (mg:Str->Option aB) (base:Heap) (A:aQ) (outer:List Env) (s:aC) (H:Hp):Prop where
 frames:A.frames=some outer
 mod:Mod K mg base
 bs:∀ b o,base.get? b=some o->s.heap.get? b=some o/\H b=none
 bsz:base.objs.size<=s.heap.objs.size
 funs:s.heap.FunFrames base outer
 frf:∀ b∈frs outer,H b=none
 hok:HOk P w H s.heap
 bare:AllBare s.gens
def CE (outer:List Env) (P:aN) (w:aL) (H:Hp) (s:aC) (Q:VK) (u:aB) (s':aC):Prop:=
 ∃ v H',s'.os=s.os/\AllBare s'.gens/\Un (frs outer) [] H H' s.heap s'.heap/\HOk P w H' s'.heap/\RelV v u/\Q v H'
def CR (CX:CXT) (outer:List Env) (P:aN) (w:aL) (H:Hp) (s:aC) (Q:VK) (E:XK) (r:Result) (s':aC):Prop:=
 match r with
 | .ok (.ret u)=>CE outer P w H s Q u s'
 | .ok _=>False
 | .error e=>CX outer H s E e s'
structure FnOk (P:aN) (w:aL) (K:PySem.W.Frag) (mg:Str->Option aB) (base:Heap) (CX:CXT) (k:Nat) (f:aA) (fd:aP) (ps:List Str) (sp:Sp):Prop where
 len:∀ vs H Q E,sp vs H Q E->vs.length=ps.length
 run:∀ (A:aQ) (outer:List Env) (s:aC) (H:Hp) (args:Args) (us:List aB) (vs:List V) (Q:VK) (E:XK),Room k A->Env0 P w K mg base A outer s H->BindsTo s fd args (ps.zip us)->Vals vs us->sp vs H Q E ->
  codeAny (aJ P w) A (.call (.ref f) args) (CR CX outer P w H s Q E) s
theorem FnOk.imp {w:aL} {base:Heap} {CX:CXT} {k:Nat} {sp B:Sp} (F:FnOk P w K mg base CX k f fd ps sp)
  (h:∀ vs H Q E,B vs H Q E->sp vs H Q E):FnOk P w K mg base CX k f fd ps B:=
 ⟨fun vs H Q E q=>F.len vs H Q E (h _ _ _ _ q),fun A outer s H args us vs Q E J G O I hs=>F.run A outer s H args us vs Q E J G O I (h _ _ _ _ hs)⟩
theorem Env0.make {w:aL} {base:Heap} {outer:List Env} (e:Env0 P w K mg base A outer s H) (C:aA) (us:List aB) (kw:List (Str × aB)) :
  Env0 P w K mg base (A.under (.builtin "type.__call__" ⟨.ref C :: us,kw⟩)) outer s H:=⟨by first | exact e.frames | (simpa [Around.under,Code.envs,Code.isFrame,pushEnvs] using e.frames),e.mod,e.bs,e.bsz,e.funs,e.frf,e.hok,e.bare⟩
variable {s':aC}
section
variable {σ:St}
theorem Inv.env0 (I:Inv X pins σ H s):Env0 X.prog X.w X.K X.mg X.base X.A X.stack s H:=
 ⟨I.ok.frames,I.ok.mod,I.bs,F0 I.ok.bsz I.sz,I.stack,I.stkFree,I.hok,I.bare⟩
theorem Inv.after {Q:VK} {u:aB} (I:Inv X pins σ H s) (h:CE X.stack X.prog X.w H s Q u s'):EP X pins σ Q u s':=by
 obtain ⟨v,H',os,bare,un,hok,r,q⟩:=h;obtain ⟨G,g,d,t,B⟩:=s';obtain rfl:B=s.os:=os;exact ⟨v,H',I.call (h':=G) (g':=g) (d':=d) (t':=t) (ch:=[]) un hok bare (fun b z=>absurd z (by simp)),r,q⟩
end
def Qvj (sp:Sp) (dvs:List V) (E:XK) (t:TA):TE:=fun σ H Q=>t σ H fun vs H1=>sp (vs ++ dvs) H1 Q E
def Qqe (C:aA) (m:Str) (sp:Sp) (dvs:List V) (E:XK) (ta:TE) (t:TA):TE:=fun σ H Q=>ta σ H fun x H1=>∃ a dx fs,x=.ref a/\H1 a=some (.ins C dx fs)/\fs.lookup m=none /\
 t σ H1 fun vs H2=>sp (x :: (vs ++ dvs)) H2 Q E
def Qvd (C:aA) (sp:Sp) (dvs:List V) (E:XK) (t:TA):TE:=fun σ H Q=>t σ H fun vs H1=>∀ x dx,H1 x=none->H1 dx=none->dx≠x ->
 sp (.ref x :: (vs ++ dvs)) (upd (upd H1 dx (.own x)) x (.ins C dx [])) (fun v H2=>v=.non/\Q (.ref x) H2) E
def Binds (K:PySem.W.Frag) (fd:aP) (ps:List Str) (ds:List aB):Prop:=
 ∀ (s:aC) (us:List aB),K.In s.heap->(us ++ ds).length=ps.length->BindsTo s fd ⟨us,[]⟩ (ps.zip (us ++ ds))
theorem Binds.all (h:∀ us:List aB,us.length=ps.length->bindArgs fd ⟨us,[]⟩=pure (ps.zip us)):Binds K fd ps []:=fun s us _ hl=>by
 rw [G6] at hl ⊢;exact .of_eq (h us hl)
def Ke (CX:CXT) (X:Cx) (E:XK):Prop:=∀ (pins:List (aA × Obj)) (σ:St) (H:Hp) (s:aC) (e:aB) (s':aC),Inv X pins σ H s->CX X.stack H s E e s'->X.xe e s'
variable {CX:CXT} {fd:aP} {ps:List Str} {sp:Sp} {dvs:List V} {ds:List aB} {m:Str} {p apos:Pos}
section
variable {k:Nat} {E:XK} {x:Str} {e o:aD} {t:TA}
theorem Qc9 {pins:List (aA × Obj)} {σ:St} {H:Hp} {s:aC} {Q:VK} {us:List aB} {vs:List V} (F:FnOk X.prog X.w X.K X.mg X.base CX k f fd ps sp) (J:Room k X.A) (O:Binds X.K fd ps ds) (hd:Vals dvs ds) (G:Ke CX X E)
  (I:Inv X pins σ H s) (r:Vals vs us) (h:sp (vs ++ dvs) H Q E):aI (aJ X.prog X.w) X.A (call (.ref f) us) (EP X pins σ Q) X.xe s:=by
 have B:Vals (vs ++ dvs) (us ++ ds):=r.append hd;have hl:(us ++ ds).length=ps.length:=by rw [<- B.length]; exact F.len _ _ _ _ h
 refine wpAny_call (bG (F.run X.A X.stack s H ⟨us,[]⟩ (us ++ ds) (vs ++ dvs) Q E J I.env0 (O s us I.kIn hl) B h) fun r s' q=>?_)
 cases r with
 | error e=>exact G pins σ H s e s' I q
 | ok fl=>
  cases fl with
  | ret u=>exact I.after q
  | next=>exact False.elim q
  | brk=>exact False.elim q
  | cont=>exact False.elim q
theorem Qdr (F:FnOk X.prog X.w X.K X.mg X.base CX k f fd ps sp) (hr:Room k X.A) (hg:Gl X x) (U:X.mg x=some (.ref f)) (hk:PySem.W.keepIn X.K (.ref f)=true) (Y:Binds X.K fd ps ds) (hd:Vals dvs ds) (Z:Ke CX X E)
  (ha:PA X (e :: es) t) (B:(x == ("__debug__" : Str))=false:=by decide) (O:aO (e :: es) X.env=(false,aM e X.env) :: aO es X.env:=by rfl) (G:(aU pos (aO es X.env)).any (·.1)=false:=by rfl) :
  PE X (.Call (.Name x p) (e :: es) [] pos) (Qvj sp dvs E t):=by
 intro pins s σ H Q I h;refine wpAny_Call_Name_kw (Xu I hg U ?_ B);refine PySem.W.callWith_K (h₀:=X.base) I.ok.mod.kin hk (thn (ha pos pins s σ H _ I h) fun us s1 ⟨vs,H1,J,r,q⟩=>⟨J.kIn,?_⟩) O G
 exact Qc9 F hr Y hd Z J r q
theorem Qnk {pl:Sem Bool} (he:PE X o ta) (c:Cls X.K C) (J:Meth X.K C m f) (F:FnOk X.prog X.w X.K X.mg X.base CX k f fd ps sp) (hr:Room k X.A) (hb:Binds X.K fd ps ds) (hd:Vals dvs ds) (hx:Ke CX X E) (ha:PA X (e :: es) t)
  (B:aO (e :: es) X.env=(false,aM e X.env) :: aO es X.env:=by rfl) (G:(aU pos (aO es X.env)).any (·.1)=false:=by rfl)
  (Z:aM (.Call (.Attribute o m apos) (e :: es) [] pos) X.env=(do
   let ov <- aM o X.env
   standAt apos.atName
   let (f,first) <- aj [ov] (getMethod ov m pl)
   callWith pos f first (aU pos (aO (e :: es) X.env)) (backToKw pos (keywordEach [] X.env))):=by rfl) :
  PE X (.Call (.Attribute o m apos) (e :: es) [] pos) (Qqe C m sp dvs E ta t):=by
 intro pins s σ H Q I h;refine PySem.W.methodCall_KW (pl:=pl) (thn (he pins s σ H _ I h) fun u s1 ⟨x,H1,U,Y,a,dx,fs,ex,ea,l,q⟩=>?_) Z
 subst ex;obtain rfl:u=Value.ref a:=Y;refine Q6g U ea c J l ?_;refine PySem.W.callWith_K (first:=[.ref a]) (h₀:=X.base) I.ok.mod.kin J.kp (thn (ha pos pins s1 σ H1 _ U q) fun us s2 ⟨vs,H2,O,r,q2⟩=>⟨O.kIn,?_⟩) B G
 exact Qc9 (us:=.ref a :: us) (vs:=.ref a :: vs) F hr hb hd hx O (.cons rfl r) q2
theorem Qij {pl:Sem Bool} (U:PE X o ta) (c:Cls X.K C) (G:Meth X.K C m f) (F:FnOk X.prog X.w X.K X.mg X.base CX k f fd ps sp) (hr:Room k X.A) (hb:Binds X.K fd ps ds) (hd:Vals dvs ds) (Y:Ke CX X E)
  (O:aM (.Call (.Attribute o m apos) [] [] pos) X.env=(do
   let ov <- aM o X.env
   standAt apos.atName
   let (f,first) <- aj [ov] (getMethod ov m pl)
   callWith pos f first (aU pos (aO [] X.env)) (backToKw pos (keywordEach [] X.env))):=by rfl) :
  PE X (.Call (.Attribute o m apos) [] [] pos) (Qqe C m sp dvs E ta Qri):=by
 intro pins s σ H Q I h;refine PySem.W.methodCall_KW (pl:=pl) (thn (U pins s σ H _ I h) fun u s1 ⟨x,H1,B,J,a,dx,fs,ex,Z,l,q⟩=>?_) O
 subst ex;obtain rfl:u=Value.ref a:=J;refine Q6g B Z c G l ?_;exact PySem.W.callWith_K0 (first:=[.ref a]) B.kIn G.kp (Qc9 (us:=[.ref a]) (vs:=[.ref a]) F hr hb hd Y B (.cons rfl .nil) q)
structure Mk (K:PySem.W.Frag) (C f:aA):Prop where
 makes:PySem.W.makesIn K C=true
 init:PySem.W.findIn K (.ref C) "__init__" = some (some (.ref f))
 fn:PySem.W.isFn K (.ref f)=true
 kp:PySem.W.keepIn K (.ref C)=true
theorem Qhy {pins:List (aA × Obj)} {σ:St} {H:Hp} {s:aC} {Q:VK} {us:List aB} {vs:List V} (M:Mk X.K C f) (F:FnOk X.prog X.w X.K X.mg X.base CX k f fd ps sp) (hr:Room (k + 1) X.A) (O:Binds X.K fd ps ds) (hd:Vals dvs ds)
  (U:Ke CX X E) (I:Inv X pins σ H s) (r:Vals vs us)
  (h:∀ x dx,H x=none->H dx=none->dx≠x->sp (.ref x :: (vs ++ dvs)) (upd (upd H dx (.own x)) x (.ins C dx [])) (fun v H2=>v=.non/\Q (.ref x) H2) E) :
  aI (aJ X.prog X.w) X.A (call (.ref C) us) (EP X pins σ Q) X.xe s:=by
 have J:=h (s.heap.objs.size + 1) s.heap.objs.size (I.hok.fresh (Nat.le_succ _)) (I.hok.fresh (O8 _)) (E9 (Nat.lt_succ_self _));have B:=Inv.made (C:=C) I;have G:Vals (V.ref (s.heap.objs.size + 1) :: (vs ++ dvs)) (Value.ref (s.heap.objs.size + 1) :: (us ++ ds)):=.cons rfl (r.append hd);have hl:(Value.ref (s.heap.objs.size + 1) :: us ++ ds).length=ps.length:=by
  have e:=G.length;rw [F.len _ _ _ _ J] at e;exact e.symm
 refine wpAny_call (Qj1 (f:=f) I.kIn M.makes M.init (beq_iff_eq.mp M.fn) (bG (F.run _ X.stack _ _ ⟨Value.ref (s.heap.objs.size + 1) :: us,[]⟩ (Value.ref (s.heap.objs.size + 1) :: (us ++ ds)) _ _ E (hr.make C us [])
  (B.env0.make C us []) (O _ (Value.ref (s.heap.objs.size + 1) :: us) B.kIn hl) G J) fun r s' q=>?_))
 cases r with
 | error e=>exact U pins σ _ _ e s' B q
 | ok fl=>
  cases fl with
  | ret u=>
   obtain ⟨v,H',Z,rv,Y,q3⟩:=B.after q;subst Y;exact ⟨rv,⟨V.ref (s.heap.objs.size + 1),H',Z,rfl,q3⟩⟩
  | next=>exact False.elim q
  | brk=>exact False.elim q
  | cont=>exact False.elim q
theorem Qnm (M:Mk X.K C f) (F:FnOk X.prog X.w X.K X.mg X.base CX k f fd ps sp) (hr:Room (k + 1) X.A) (hg:Gl X x) (U:X.mg x=some (.ref C)) (hb:Binds X.K fd ps ds) (hd:Vals dvs ds) (Y:Ke CX X E)
  (Z:PA X (e :: es) t) (B:(x == ("__debug__" : Str))=false:=by decide) (O:aO (e :: es) X.env=(false,aM e X.env) :: aO es X.env:=by rfl) (G:(aU pos (aO es X.env)).any (·.1)=false:=by rfl) :
  PE X (.Call (.Name x p) (e :: es) [] pos) (Qvd C sp dvs E t):=by
 intro pins s σ H Q I h;refine wpAny_Call_Name_kw (Xu I hg U ?_ B);refine PySem.W.callWith_K (h₀:=X.base) I.ok.mod.kin M.kp (thn (Z pos pins s σ H _ I h) fun us s1 ⟨vs,H1,J,r,q⟩=>⟨J.kIn,?_⟩) O G
 exact Qhy M F hr hb hd Y J r q
end
def PK (X:Cx) (kws:List Keyword) (t:TA):Prop:=
 ∀ (pos:Pos) (pins:List (aA × Obj)) (s:aC) (σ:St) (H:Hp) (Q:List V->Hp->Prop),Inv X pins σ H s->t σ H Q->aI (aJ X.prog X.w) X.A (evalAll ((backToKw pos (keywordEach kws X.env)).map (·.2))) (AP X pins σ Q) X.xe s
structure FnScope (N P:List Str) (sc:Scope):Prop where
 kind:sc.kind=.function
 co:sc.isCoroutine=false
 gen:sc.isGenerator=false
 nd:N.Nodup
 pre:N.take P.length=P
 par:∀ x∈P,sc.names.lookup x=some .local\/sc.names.lookup x=some .cell
 nofree:∀ y∈sc.names,y.2≠.free
theorem Q8k {kindOf:Str->Option ao} {x:Str}:∀ {binds:List (Str × aB)} {m:Str->Option aB},(∀ v,(x,v)∉binds)->bindL kindOf binds m x=m x
 | [],_,_=>rfl
 | (n,v) :: r,m,h=>by
  unfold bindL;rw [Q8k fun w q=>h w (D1 _ q)]
  split
  ·have:x≠n:=by rintro rfl; exact h v D5
   simp [this]
  ·rfl
theorem Q8n {kindOf:Str->Option ao} {x:Str}:∀ {binds:List (Str × aB)} {m:Str->Option aB},(∀ v,(x,v)∉binds)->bindC kindOf binds m x=m x
 | [],_,_=>rfl
 | (n,v) :: r,m,h=>by
  unfold bindC;rw [Q8n fun w q=>h w (D1 _ q)]
  split
  ·rfl
  ·have:x≠n:=by rintro rfl; exact h v D5
   simp [this]
theorem Q8m {kindOf:Str->Option ao} {x:Str} {v:aB}:∀ {P:List Str} {vs:List aB} {i:Nat} {m:Str->Option aB},P.Nodup->P[i]?=some x->vs[i]?=some v->kindOf x=some .local ->
  bindL kindOf (P.zip vs) m x=some v
 | [],_,_,_,_,h,_,_=>by simp at h
 | _ :: _,[],_,_,_,_,h,_=>by simp at h
 | p :: P,w :: vs,0,m,nd,h1,h2,q=>by
  simp at h1 h2; subst h1; subst h2;show bindL kindOf ((p,w) :: P.zip vs) m p=_;unfold bindL;rw [Q8k fun v B=>(List.nodup_cons.mp nd).1 (List.of_mem_zip B).1,bN q]
  simp
 | p :: P,w :: vs,i + 1,m,nd,h1,h2,q=>by
  show bindL kindOf ((p,w) :: P.zip vs) m x=_;unfold bindL;exact Q8m (i:=i) (List.nodup_cons.mp nd).2 (by simpa using h1) (by simpa using h2) q
theorem Q8p {kindOf:Str->Option ao} {x:Str} {v:aB}:∀ {P:List Str} {vs:List aB} {i:Nat} {m:Str->Option aB},P.Nodup->P[i]?=some x->vs[i]?=some v->kindOf x≠some .local ->
  bindC kindOf (P.zip vs) m x=some v
 | [],_,_,_,_,h,_,_=>by simp at h
 | _ :: _,[],_,_,_,_,h,_=>by simp at h
 | p :: P,w :: vs,0,m,nd,h1,h2,q=>by
  simp at h1 h2; subst h1; subst h2;show bindC kindOf ((p,w) :: P.zip vs) m p=_;unfold bindC;rw [Q8n fun v B=>(List.nodup_cons.mp nd).1 (List.of_mem_zip B).1,bO q]
  simp
 | p :: P,w :: vs,i + 1,m,nd,h1,h2,q=>by
  show bindC kindOf ((p,w) :: P.zip vs) m x=_;unfold bindC;exact Q8p (i:=i) (List.nodup_cons.mp nd).2 (by simpa using h1) (by simpa using h2) q
def start (N:List Str) (vs:List V):St:=vs.map some ++ List.replicate (N.length - vs.length) none
def Qd3 (CX:CXT) (P:aN) (w:aL) (K:PySem.W.Frag) (mg:Str->Option aB) (base:Heap) (N:List Str) (qual:Str) (scope:Scope) (f:aA) (cd:aB) (A:aQ) (outer:List Env) (s:aC) (H:Hp) (E:XK):Cx where
 prog:=P
 w:=w
 K:=K
 mg:=mg
 base:=base
 A:=A.deeper (envOfC qual scope s.heap.objs.size f cd)
 N:=N
 s₀:=s
 H₀:=H
 env:=envOfC qual scope s.heap.objs.size f cd
 outer:=outer
 stack:=envOfC qual scope s.heap.objs.size f cd :: outer
 ex:=[]
 calm:=true
 fn:=fun _=>true
 pn:=[]
 xe:=fun e s'=>aI (aJ P w) (A.deeper (envOfC qual scope s.heap.objs.size f cd)) (leaving (envOfC qual scope s.heap.objs.size f cd) e) (fun _ s''=>CX outer H s E e s'') (fun e' s''=>CX outer H s E e' s'') s'
theorem Qbk {sc:Scope} {x:Str} (h:sc.names.lookup x=some .cell):∃ c,(ag n sc.names []).lookup x=some c:=by
 have q:=PySem.W.cellsFrom_some sc.names n [] (.inl h);exact Option.isSome_iff_exists.mp q
theorem Qg7 {CX:CXT} {P:aN} {w:aL} {K:PySem.W.Frag} {mg:Str->Option aB} {base:Heap} {N ps:List Str} {qual:Str} {scope:Scope} {f:aA} {cd:aB} {A:aQ} {outer:List Env} {s s1:aC} {H:Hp} {E:XK} {us:List aB} {vs:List V}
  (S:FnScope N ps scope) (hd:A.handled=none) (B:Env0 P w K mg base A outer s H) (hl:vs.length=ps.length) (r:Vals vs us)
  (x:InCallC s s.heap.objs.size (bindL (envOfC qual scope s.heap.objs.size f cd).kindOf (ps.zip us) fun _=>none) (ag (s.heap.objs.size + 1) scope.names []) (bindC (envOfC qual scope s.heap.objs.size f cd).kindOf (ps.zip us) fun _=>none) s1) :
  Inv (Qd3 CX P w K mg base N qual scope f cd A outer s H E) [] (start N vs) H s1:=by
 have Z:ps.length<=N.length:=by have:=congrArg List.length S.pre; rw [List.length_take] at this; omega
 obtain ⟨h1,tk,rfl,U⟩:=x.done;have G:∀ b:aA,b∉(Qd3 CX P w K mg base N qual scope f cd A outer s H E).ex:=fun b z=>absurd (show b∈([]:List aA) from z) (by simp)
 refine ⟨⟨B.mod,S.kind,rfl,rfl,O8 _,fun y z c h1 h2=>?_,fun y I=>?_,fun y c _ h=>?_,fun _=>hd,Around.frames_deeper B.frames,.inr ⟨rfl,rfl⟩,fun b z=>absurd z (G b),B.bs,B.bsz,fun b _ _=>G b,fun b z=>absurd z (G b),B.funs,B.frf⟩,
  rfl,B.bare,Un.kept U,⟨_,x.toInCall.ns,fun i y v h1 h2 h3=>?_⟩,fun y c h=>⟨_,x.cell y c h⟩,B.hok.fresh (O8 _),fun y c h=>?_,fun p hp=>absurd (show p∈([]:List (aA × Obj)) from hp) (by simp),B.hok.kept U,?_⟩
 ·exact name_of_addr x.apart (PySem.mem_of_lookup h1) (PySem.mem_of_lookup h2)
 ·have I:scope.names.lookup y=some .cell\/scope.names.lookup y=some .free:=I;rcases I with I | I
  ·exact Qbk I
  ·exact absurd rfl (S.nofree _ (PySem.mem_of_lookup I))
 ·exact E8 (x.above y c (PySem.mem_of_lookup h))
 ·have hi:i < vs.length:=by
   unfold start at h2
   by_cases hi:i < vs.length
   ·exact hi
   ·rw [D0 (by simpa using hi)] at h2;rw [List.getElem?_replicate] at h2
    split at h2 <;> cases h2
  have Y:vs[i]?=some v:=by
   unfold start at h2;rw [O3 (by simpa using hi),E5] at h2;cases e:vs[i]? with
   | none=>rw [e] at h2; cases h2
   | some a=>rw [e] at h2; cases h2; rfl
  obtain ⟨u,O,rv⟩:=r.get Y;have hp:ps[i]?=some y:=by
   rw [<- S.pre,List.getElem?_take_of_lt (by omega)]; exact h1
  have J:ps.Nodup:=by rw [<- S.pre]; exact S.nd.sublist (List.take_sublist _ _)
  refine ⟨u,rv,?_⟩;rcases S.par y (D6 hp) with k | k
  ·exact .inl ⟨k,Q8m J hp O k⟩
  ·obtain ⟨c,e⟩:=Qbk (n:=s.heap.objs.size + 1) k;refine .inr ⟨.inl k,c,e,?_⟩;have q:=x.cell y c e;rw [Q8p J hp O (by show scope.names.lookup y≠_; rw [k]; decide)] at q;exact q
 ·exact B.hok.fresh (E8 (x.above y c (PySem.mem_of_lookup h)))
 ·unfold start;show _=N.length;rw [O6,O2,List.length_replicate];omega
theorem Qqy {CX:CXT} {P:aN} {w:aL} {K:PySem.W.Frag} {mg:Str->Option aB} {base:Heap} {k:Nat} {f:aA} {name qual:Str} {G:Arguments} {body:List aK} {scope:Scope} {dV kV a2 pm B ct oc:aB} {an od:Option aA}
  {a3:Array (Option aB)} {N ps:List Str} {sp:Sp} (lk:K.lookup f=some ⟨oc,od,.func (PySem.W.fnOf name qual G body scope dV kV a2 pm an B ct),a3⟩) (a4:PySem.W.codeIn K B qual=true) (S:FnScope N ps scope)
  (len:∀ vs H Q E,sp vs H Q E->vs.length=ps.length)
  (U:∀ (A:aQ) (outer:List Env) (s:aC) (H:Hp) (vs:List V) (Q:VK) (E:XK),Room k (A.deeper (envOfC qual scope s.heap.objs.size f B))->sp vs H Q E ->
   ∃ t,PSs (Qd3 CX P w K mg base N qual scope f B A outer s H E) body t/\t { nx:=fun _ H'=>Q .non H',rt:=Q } (start N vs) H) :
  FnOk P w K mg base CX (k + 1) f (PySem.W.fnOf name qual G body scope dV kV a2 pm an B ct) ps sp:=by
 refine ⟨len,fun A outer s H args us vs Q E hr e0 hb r Z=>?_⟩;have hl:=len _ _ _ _ Z;have KX:K.In s.heap:=e0.mod.kin.keeps fun b o e=>(e0.bs b o e).1
 have lim:s.heap.NoLimit:=e0.mod.nolimit.keeps fun b o e=>(e0.bs b o e).1
 have Y:∀ y∈ps.zip us,scope.names.lookup y.1=some .local\/(scope.names.lookup y.1=some .cell/\((ag (s.heap.objs.size + 1) scope.names []).lookup y.1).isSome=true):=fun ⟨n,v⟩ hy=>by
  rcases S.par n (List.of_mem_zip hy).1 with q | q
  ·exact .inl q
  ·exact .inr ⟨q,PySem.W.cellsFrom_some _ _ _ (.inl q)⟩
 refine codeAny_call_function hr.depth (KX _ _ lk) rfl S.co S.gen rfl (PySem.W.codeRec_of KX a4) (hb _ _ _ _ ?_);refine wpAny_newFunctionEnv_cells S.kind Y fun env he s1 x=>?_
 subst he;refine ⟨lim.keeps x.toInCall.keep,codeAny_func ?_⟩;obtain ⟨t,ht,hq⟩:=U A outer s H vs Q E (hr.deeper _) Z;have I:Inv (Qd3 CX P w K mg base N qual scope f B A outer s H E) [] (start N vs) H s1:=Qg7 S hr.hd e0 hl r x;refine ae (ht [] s1 (start N vs) H _ I hq) (fun fl s' hs=>?_) fun e s' hs=>hs
 have fin:∀ {O:St} {H':Hp} {v:V} {u:aB},Inv (Qd3 CX P w K mg base N qual scope f B A outer s H E) [] O H' s'->RelV v u->Q v H'->CE outer P w H s Q u s':=
  fun {O H' v u} J rv q=>⟨v,H',J.os,J.bare,J.base,J.hok,rv,q⟩
 cases fl with
 | ret u=>
  obtain ⟨v,O,H',J,rv,q⟩:=hs;exact fin J rv q
 | next=>
  obtain ⟨O,H',J,q⟩:=hs;exact fin (v:=V.non) (u:=Value.none) J rfl q
 | brk=>
  obtain ⟨_,_,_,q⟩:=hs;exact False.elim q
 | cont=>
  obtain ⟨_,_,_,q⟩:=hs;exact False.elim q
variable {T:String} {r:List V->Hp->VK->Prop}
section
variable {x:Str} {e:aD} {t:TA} {id:String}
def tCB (r:List V->Hp->VK->Prop) (t:TA):TE:=fun σ H Q=>t σ H fun vs H1=>r vs H1 Q
theorem Yd (O:K1 X (.builtin id) r) (Y:Gl X x) (U:X.mg x=none) (Z:aZ x=some (.builtin id)) (ha:PA X (e :: es) t) (G:x≠"__name__" := by decide) (q:(x == ("__debug__" : Str))=false:=by decide)
  (J:aO (e :: es) X.env=(false,aM e X.env) :: aO es X.env:=by rfl) (B:(aU pos (aO es X.env)).any (·.1)=false:=by rfl):PE X (.Call (.Name x p) (e :: es) [] pos) (tCB r t):=by
 intro pins s σ H Q I h;refine wpAny_Call_Name_kw (Q35 I Y U Z ?_ G q);exact PyProof.Rows.callWith_builtin1 (thn (ha pos pins s σ H _ I h) fun us s1 ⟨vs,H1,I1,r1,q1⟩=>O pins s1 σ H1 vs us Q I1 r1 q1) J B
theorem Qfe (O:K1 X (.type T) r) (Y:Gl X x) (U:X.mg x=none) (Z:aZ x=some (.type T)) (ha:PA X (e :: es) t) (G:x≠"__name__" := by decide) (q:(x == ("__debug__" : Str))=false:=by decide)
  (J:aO (e :: es) X.env=(false,aM e X.env) :: aO es X.env:=by rfl) (B:(aU pos (aO es X.env)).any (·.1)=false:=by rfl):PE X (.Call (.Name x p) (e :: es) [] pos) (tCB r t):=by
 intro pins s σ H Q I h;refine wpAny_Call_Name_kw (Q35 I Y U Z ?_ G q);exact PyProof.Rows.callWith_type1 (thn (ha pos pins s σ H _ I h) fun us s1 ⟨vs,H1,I1,r1,q1⟩=>O pins s1 σ H1 vs us Q I1 r1 q1) J B
end
end L2
namespace HT
open PySem PyProof.Rows
def lexLt:List Int->List Int->Bool
 | [],[]=>false
 | [],_ :: _=>true
 | _ :: _,[]=>false
 | x :: xs,y :: ys=>if x=y then lexLt xs ys else decide (x < y)
theorem Qcw (x y:Int) (xs ys:List Int):lexLt (x :: xs) (y :: ys)=if x=y then lexLt xs ys else decide (x < y):=rfl
theorem Q7j:lexLt [] []=false:=rfl
theorem Q65 (y:Int) (ys:List Int):lexLt [] (y :: ys)=true:=rfl
theorem Q66 (x:Int) (xs:List Int):lexLt (x :: xs) []=false:=rfl
theorem Qjt (A:aQ) (s:aC) (a:Int) (t:Tok) (c:Int) (u:Tok):∃ e,SeqAt.EqAt A s (.int a t) (.int c u) e/\(e=true <-> a=c):=
 ⟨(a == c),SeqAt.EqAt.int_int a t c u,by simp⟩
theorem Qi0 (A:aQ) (s:aC) (a:Int) (t:Tok) (c:Int) (u:Tok) (prog:aN) (w:aL) (E:aB->aC->Prop) (Q:aB->aC->Prop) (h:Q (.bool (decide (a < c))) s) :
  aI (aJ prog w) A (richCompare .Lt (.int a t) (.int c u)) Q E s:=
 (PyProof.Rows.lt_int h:aI (aJ prog w) A (aV .Lt (.int a t) (.int c u)) Q E s)
section
open PySem.SeqAt
open PySem.AutoSeq1 (wpAny_loadPart')
open PySem.MeetsSeq PySem.MeetsSeq2 PySem.MeetsSeq3
theorem Q6x (l b:aA) (G B:Array aB) (n n2:Nat) (dd a9:Option aA) (sl b0:Array (Option aB)) (ns ms:List Int) (hi:IntsAre G.toList ns) (hj:IntsAre B.toList ms) :
  Meets (Builtin.«tuple.__lt__» ⟨[.ref l,.ref b],[]⟩)
   (fun _ R s=>s.heap.get? l=some { cls:=.type "tuple",dict:=dd,data:=.seq G n,slots:=sl }/\s.heap.get? b=some { cls:=.type "tuple",dict:=a9,data:=.seq B n2,slots:=b0 } /\
    R (.ok (.ret (.bool (lexLt ns ms)))) s):=
 .of_wp fun prog w A R s h=>by
  obtain ⟨hp,g,d,tk,os⟩:=s; obtain ⟨hl,hb,h⟩:=h;have f2:=AutoSeq1.sub_tuple_tuple;have z1:G.size=ns.length:=by rw [<- hi.length]; simp
  have z2:B.size=ms.length:=by rw [<- hj.length]; simp
  wp_walk using wpAny_loadPart' hl,wpAny_loadPart' hb,wpAny_forIn_list _ (fun rest b s'=>b.1=none/\s'=⟨hp,g,d,tk,os⟩/\∃ (vs ws:List aB) (O J:List Int),rest=vs.zip ws /\
   IntsAre vs O/\IntsAre ws J/\O.length + B.size=J.length + G.size/\R (.ok (.ret (.bool (lexLt O J)))) ⟨hp,g,d,tk,os⟩) _
  case turn=>
   rintro ⟨y,x⟩ rest b s' ⟨a3,rfl,vs,ws,O,J,hz,a2,U,I,Z⟩;cases a2 with
   | nil=>rw [List.zip_nil_left] at hz; cases hz
   | cons a t a6=>
    cases U with
    | nil=>rw [List.zip_nil_right] at hz; cases hz
    | cons c u a5=>
     rw [List.zip_cons_cons] at hz;injection hz with a7 a4
     injection a7 with hy hx
     subst hy hx;rw [Qcw] at Z;simp only [D7] at I;obtain ⟨e,he,Y⟩:=Qjt A.in1 ⟨hp,g,d,tk,os⟩ a t c u;refine aF (he prog w _ _ ?_);cases e with
     | true=>
      rw [bN (Y.mp rfl)] at Z
      wp_walk
      exact ⟨rfl,rfl,_,_,_,_,a4,a6,a5,by omega,Z⟩
     | false=>
      rw [bO (fun q=>absurd (Y.mpr q) D2)] at Z
      have a8:=Qi0 A.in1 ⟨hp,g,d,tk,os⟩ a t c u prog w
      wp_walk using a8
      exact ⟨_,rfl,by simpa using Z⟩
  case fin=>
   rintro ⟨b1,b2⟩ s' ⟨a3,rfl,vs,ws,O,J,hz,a2,U,I,Z⟩;simp only at a3;subst a3;have hv:lexLt O J=decide (G.size < B.size):=by
    cases a2 with
    | nil=>
     cases U with
     | nil=>
      simp only [List.length_nil] at I;rw [Q7j];exact (bP (by omega)).symm
     | cons c u hw=>
      simp only [List.length_nil,D7] at I;rw [Q65];exact (bQ (by omega)).symm
    | cons a t hv=>
     cases U with
     | nil=>
      simp only [List.length_nil,D7] at I;rw [Q66];exact (bP (by omega)).symm
     | cons c u hw=>
      rw [List.zip_cons_cons] at hz;cases hz
   rw [hv] at Z
   wp_walk
   exact ⟨_,rfl,by simpa [Builtin.Tuple.tupleCompareSizes] using Z⟩
  case h=>
   exact ⟨rfl,rfl,G.toList,B.toList,ns,ms,rfl,hi,hj,by omega,h⟩
end
variable {prog:aN} {A:aQ} {E:aB->aC->Prop} {s:aC}
section
variable {w:aL}
theorem lt_tupInts {l b:aA} {B q:Array aB} {ns ms:List Int} {Q:aB->aC->Prop} (hl:IsTup s.heap l B) (Y:IsTup s.heap b q) (hi:IntsAre B.toList ns) (U:IntsAre q.toList ms)
  (O:A.units < aa) (h:Q (.bool (lexLt ns ms)) s):aI (aJ prog w) A (aV .Lt (.ref l) (.ref b)) Q E s:=by
 obtain ⟨⟨cls,dd,data,sl⟩,ho,hc,n,hd⟩:=id hl;obtain ⟨⟨J,G,data2,I⟩,ho2,hc2,n2,hd2⟩:=id Y;simp only at hc hd hc2 hd2;subst hc hd hc2 hd2;exact richCompare_meets_room (op:=.Lt) ⟨_,ho,rfl⟩ ⟨_,ho2,rfl⟩ PySem.F.slot_tuple_lt PySem.F.entry_tuple_lt (PySem.F.args_tuple_lt_2 _ _) (Q6x l b B q n n2 dd G sl I ns ms hi U)
  ⟨ho,ho2,show Value.bool (lexLt ns ms)≠Value.notImplemented/\Q (.bool (lexLt ns ms)) s from ⟨(fun x=>nomatch x),h⟩⟩ O
theorem cat_tup {t b:aA} {vs q:List aB} {Q:aB->aC->Prop} (Y:IsTup s.heap t vs.toArray) (Z:IsTup s.heap b q.toArray) (U:vs≠[])
  (h1:q=[]->Q (.ref t) s) (h2:q≠[]->Q (.ref s.heap.objs.size) { s with heap:=s.heap.push { cls:=.type "tuple",data:=.seq (vs ++ q).toArray } })
  (J:vs.length + q.length<=sizeLine):aI (aJ prog w) A (aW .Add (.ref t) (.ref b)) Q E s:=by
 obtain ⟨⟨cls,dd,data,sl⟩,ho,hc,n,hd⟩:=id Y;obtain ⟨⟨O,B,data2,G⟩,ho2,hc2,n2,hd2⟩:=id Z;simp only at hc hd hc2 hd2;subst hc hd hc2 hd2;have e:vs.toArray ++ q.toArray=(vs ++ q).toArray:=by simp
 by_cases I:q=[]
 ·exact concat_meets ⟨_,ho,rfl⟩ ⟨_,ho2,rfl⟩ noFill_tuple_add seq_tuple_add PySem.F.slot_tuple_add PySem.F.entry_tuple_add (PySem.F.args_tuple_add_2 _ _)
   (tuple_addW1 t b vs.toArray q.toArray n n2 dd B sl G (by simpa using U) (by simp [I])) ⟨ho,ho2,h1 I⟩
 ·refine concat_meets ⟨_,ho,rfl⟩ ⟨_,ho2,rfl⟩ noFill_tuple_add seq_tuple_add PySem.F.slot_tuple_add PySem.F.entry_tuple_add (PySem.F.args_tuple_add_2 _ _)
   (tuple_addW2 t b vs.toArray q.toArray n n2 dd B sl G (by simpa using U) (by simpa using I) (by rw [O4,O4]; exact J)) ⟨ho,ho2,?_⟩
  rw [e];exact h2 I
def sIx (n d:Nat):Option Int->Nat
 | none=>d
 | some v=>if v < 0 then (v + (n:Int)).toNat else min v.toNat n
theorem sIx_none (n d:Nat):sIx n d none=d:=rfl
theorem sIx_nat (n d k:Nat):sIx n d (some (k:Int))=min k n:=by
 show (if (k:Int) < 0 then ((k:Int) + (n:Int)).toNat else min (k:Int).toNat n)=min k n;rw [bO (by omega),Int.toNat_natCast]
theorem Qsf (n d:Nat) (hd:d<=n) (o:Option Int):sIx n d o<=n:=by
 cases o with
 | none=>exact hd
 | some v=>
  show (if v < 0 then (v + (n:Int)).toNat else min v.toNat n)<=n
  by_cases q:v < 0
  ·rw [bN q]; omega
  ·rw [bO q]; exact Nat.min_le_right _ _
theorem Qei (v:Int) (n d:Nat):(if v < 0 then max (v + (n:Int)) 0 else min v (n:Int))=((sIx n d (some v):Nat):Int):=by
 show (if v < 0 then max (v + (n:Int)) 0 else min v (n:Int))=(((if v < 0 then (v + (n:Int)).toNat else min v.toNat n):Nat):Int)
 by_cases q:v < 0
 ·simp only [bN q]; omega
 ·simp only [bO q]; omega
theorem Qdb (lo hi:Option Int) (n:Nat):Builtin.Slice.sliceAdjust lo hi 1 (n:Int)=(((sIx n 0 lo:Nat):Int),((sIx n n hi:Nat):Int)):=by
 have h1:¬ ((1:Int) < 0):=by omega
 unfold Builtin.Slice.sliceAdjust;simp only [h1,if_false];refine Prod.ext ?_ ?_
 ·cases lo with
  | none=>rfl
  | some v=>exact Qei v n 0
 ·cases hi with
  | none=>rfl
  | some v=>exact Qei v n n
theorem Qcd (i j:Nat):Builtin.Slice.slicePlaces (i:Int) (j:Int) 1=j - i:=by
 unfold Builtin.Slice.slicePlaces;have h1:(1:Int) > 0:=by omega
 simp only [h1,if_true,Int.ediv_one]
 split <;> omega
theorem Q4z {v:aB} {o:Option Int} {Q:Option Int->aC->Prop} (p:IsPart v o) (h:Q o s):aI (aJ prog w) A (Builtin.Slice.slicePartIndex v) Q E s:=by
 cases p with
 | none=>exact slicePart_none h
 | int i t=>exact slicePart_int h
theorem ze {sl:aA} {I G:aB} {lo hi:Option Int} {n:Nat} {Q:Int × Int × Nat->aC->Prop} (hs:s.heap.IsSliceOf sl I G .none) (pl:IsPart I lo) (J:IsPart G hi)
  (h:Q (((sIx n 0 lo:Nat):Int),1,sIx n n hi - sIx n 0 lo) s):aI (aJ prog w) A (Builtin.Slice.sliceApplied (.ref sl) (pure (n:Int))) Q E s:=by
 obtain ⟨os,B,O,q⟩:=id hs;unfold Builtin.Slice.sliceApplied Builtin.Slice.sliceFields;refine aF (aF (aY B q (x:=I) rfl (aF (aY B q (x:=G) rfl (aF (aY B q (x:=.none) rfl (aR ?_)))))));refine aF (slicePart_none ?_);show aI _ _ (if ((1:Int) == 0)=true then _ else _) _ _ s;rw [bO (by decide)];refine aF (Q4z pl (aF (Q4z J (aF (aR ?_)))));show aI _ _ (match Builtin.Slice.sliceAdjust lo hi 1 (n:Int) with | (lo,hi)=>pure (lo,(1:Int),Builtin.Slice.slicePlaces lo hi 1)) _ _ s
 rw [Qdb lo hi n];show aI _ _ (pure (((sIx n 0 lo:Nat):Int),(1:Int),Builtin.Slice.slicePlaces ((sIx n 0 lo:Nat):Int) ((sIx n n hi:Nat):Int) 1)) _ _ s;rw [Qcd];exact aR h
theorem Qie (xs:Array aB) (i k:Nat):((List.range k).filterMap fun (m:Nat)=>xs[((i:Int) + (m:Int) * 1).toNat]?).toArray=((xs.toList.drop i).take k).toArray:=by
 have e:(fun (m:Nat)=>xs[((i:Int) + (m:Int) * 1).toNat]?)=fun m=>xs[i + m]?:=by
  funext m;have:((i:Int) + (m:Int) * 1).toNat=i + m:=by omega
  rw [this]
 rw [e];have:=pick_run xs i k;rw [List.filterMap_map] at this;have e2:((fun x=>xs[x]?) ∘ fun x=>i + x)=fun m=>xs[i + m]?:=rfl
 rw [e2] at this;rw [this]
theorem getItem_tuple_cut {t sl:aA} {B:Array aB} {Z vu:aB} {lo hi:Option Int} {Q:aB->aC->Prop} (I:IsTup s.heap t B) (hs:s.heap.IsSliceOf sl Z vu .none) (pl:IsPart Z lo) (pu:IsPart vu hi)
  (hw:¬ (sIx B.size 0 lo=0/\sIx B.size B.size hi=B.size))
  (h:Q (.ref s.heap.objs.size) { s with heap:=s.heap.push { cls:=.type "tuple",data:=.seq ((B.toList.drop (sIx B.size 0 lo)).take (sIx B.size B.size hi - sIx B.size 0 lo)).toArray } })
  (a3:B.size<=sizeLine):aI (aJ prog w) A (getItem (.ref t) (.ref sl)) Q E s:=by
 have G:sizeOk (.seq ((B.toList.drop (sIx B.size 0 lo)).take (sIx B.size B.size hi - sIx B.size 0 lo)).toArray):=by
  show ((B.toList.drop (sIx B.size 0 lo)).take (sIx B.size B.size hi - sIx B.size 0 lo)).toArray.size<=sizeLine;rw [O4,List.length_take,List.length_drop,Array.length_toList];omega
 have hj:sIx B.size B.size hi<=B.size:=Qsf _ _ (O8 _) hi;obtain ⟨os,O,U,a2⟩:=id hs;have Y:s.TypeIs (.ref sl) "slice" := ⟨os,O,U⟩;unfold getItem
 try with_reducible refine av ?_
 first | refine aF (aR ?_) | skip
 refine aF (wpAny_sequenceKey I.typeIs (by decide) ?_);refine aF (wpAny_callSpecial?_slot (name:=Str.ofString "__getitem__") I.typeIs PyProof.Rows.slot_tuple_getitem
  (bH PyProof.Rows.slot_tuple_getitem I.typeIs entry_tuple_getitem ?_ (args_tuple_getitem _ _)))
 show aI _ _ (Builtin.Tuple.tupleItemsOf (.ref t) >>= _) _ _ s;refine aF (tupleItemsOf_ I ?_);refine aF (bJ Y ?_);rw [bN (by decide)];refine aF (ze hs pl pu ?_);have J:¬ ((((sIx B.size 0 lo:Nat):Int) == 0 && (1:Int) == 1 && (sIx B.size B.size hi - sIx B.size 0 lo) == B.size)=true):=by
  intro q;rw [F5,F5] at q;have q1:((sIx B.size 0 lo:Nat):Int)=0:=eq_of_beq q.1.1;have q2:sIx B.size B.size hi - sIx B.size 0 lo=B.size:=eq_of_beq q.2;exact hw ⟨by omega,by omega⟩
 show aI _ _ (if (((sIx B.size 0 lo:Nat):Int) == 0 && (1:Int) == 1 && (sIx B.size B.size hi - sIx B.size 0 lo) == B.size)=true then _ else _) _ _ s;rw [bO J,Qie]
 first
  | exact aF (m:=Builtin.Tuple.tupleExact _) (ay (aR ⟨_,rfl,aR h⟩) G)
  | exact aF (m:=Builtin.Tuple.tupleExact _) (ay (aF (aR (aR ⟨_,rfl,aR h⟩))) G)
  | exact aF (aF (m:=Builtin.Tuple.tupleExact _) (ay (aR (aR ⟨_,rfl,aR h⟩)) G))
  | exact aF (aF (m:=Builtin.Tuple.tupleExact _) (ay (aR ⟨_,rfl,aR h⟩) G))
end
end HT
namespace L2
open PySem PySem.Spec PyProof.Rows
variable {xs:List V} {us:List aB} {n t':Nat} {α:Type} {σ:St} {H:Hp} {s:aC} {p:aA}
abbrev TO:=St->Hp->(Option Int->Hp->Prop)->Prop
def PO (X:Cx) (e:Option aD) (t:TO):Prop:=
 ∀ (pins:List (aA × Obj)) (s:aC) (σ:St) (H:Hp) (Q:Option Int->Hp->Prop),Inv X pins σ H s->t σ H Q ->
  aI (aJ X.prog X.w) X.A (evalPart e X.env) (fun u s'=>∃ o H',Inv X pins σ H' s'/\IsPart u o/\Q o H') X.xe s
def Qm7:TO:=fun _ H Q=>Q none H
def Qvb (t:TE):TO:=fun σ H Q=>t σ H fun x H1=>∃ i,x=.int i/\Q (some i) H1
theorem Q6e {ns:List Int}:∀ {us:List aB},Vals (ns.map V.int) us->IntsAre us ns:=by
 induction ns with
 | nil=>intro us r; rw [List.map_nil] at r; cases r; exact .nil
 | cons n ns G=>
  intro us r;rw [F2] at r;cases r with
  | cons B q=>
   obtain ⟨t,e⟩:=B;subst e;exact .cons n t (G q)
variable {X:Cx} {e:aD} {te:TE} {lo hi:Option aD} {tl th:TO} {pos p2:Pos}
theorem Qne:PO X none Qm7:=by
 intro pins s σ H Q I h;rw [evalPart_none];exact aR ⟨none,H,I,.none,h⟩
theorem Qnd (h:PE X e te):PO X (some e) (Qvb te):=by
 intro pins s σ H Q I J;rw [evalPart_some];refine thn (h pins s σ H _ I J) fun u s1 ⟨x,H1,G,B,q1⟩=>?_
 obtain ⟨i,rfl,q⟩:=q1;obtain ⟨t,rfl⟩:=B;exact ⟨some i,H1,G,.int i t,q⟩
def SlR (X:Cx) (r:V->Option Int->Option Int->Hp->VK->Prop):Prop:=
 ∀ (pins:List (aA × Obj)) (s:aC) (σ:St) (H:Hp) (x:V) (v vl vu:aB) (lo hi:Option Int) (sl:aA) (Q:VK),Inv X pins σ H s->RelV x v->s.heap.IsSliceOf sl vl vu .none->IsPart vl lo->IsPart vu hi->r x lo hi H Q ->
  ∃ T id,typeLookup (.type T) "__getitem__" = pure (some (.builtin id))/\s.TypeIs v T/\aI (aJ X.prog X.w) X.A (getItem v (.ref sl)) (EP X pins σ Q) X.xe s
theorem SlR.or {r U:V->Option Int->Option Int->Hp->VK->Prop} (h:SlR X r) (h':SlR X U):SlR X (fun x lo hi H Q=>r x lo hi H Q\/U x lo hi H Q):=by
 intro pins s σ H x v O J lo hi sl Q I G hs pl B q;rcases q with q | q
 ·exact h pins s σ H x v O J lo hi sl Q I G hs pl B q
 ·exact h' pins s σ H x v O J lo hi sl Q I G hs pl B q
def tSl (r:V->Option Int->Option Int->Hp->VK->Prop) (te:TE) (tl th:TO):TE:=fun σ H Q=>te σ H fun x H1=>tl σ H1 fun l H2=>th σ H2 fun u H3=>r x l u H3 Q
theorem Qii {r:V->Option Int->Option Int->Hp->VK->Prop} (Y:SlR X r) (O:PE X e te) (hl:PO X lo tl) (hu:PO X hi th):PE X (.Subscript e (.Slice lo hi none p2) pos) (tSl r te tl th):=by
 intro pins s σ H Q I h;refine Subscript_ (thn (O pins s σ H _ I h) fun v s1 ⟨x,H1,I1,r1,q1⟩=>?_)
 refine wpAny_Slice (thn (hl pins s1 σ H1 _ I1 q1) fun B s2 ⟨l,H2,Z,pl,q2⟩=>thn (hu pins s2 σ H2 _ Z q2) fun G s3 ⟨u,J,I3,pu,q3⟩=>?_)
 rw [evalPart_none];refine aR ?_;have U:Inv X pins σ J { s3 with heap:=s3.heap.push { cls:=.type "slice",data:=.fields #[B,G,.none] } }:=I3.kept (t':=s3.toks) fun b ob q=>O1 _ q
 obtain ⟨T,id,hT,ht,hg⟩:=Y pins { s3 with heap:=s3.heap.push { cls:=.type "slice",data:=.fields #[B,G,.none] } } σ J x v B G l u s3.heap.objs.size Q U r1 (Heap.IsSliceOf.new ..) pl pu q3;show aI (aJ X.prog X.w) X.A (subscriptTail e (.Slice lo hi none p2) v (.ref s3.heap.objs.size)) (EP X pins σ Q) X.xe { s3 with heap:=s3.heap.push { cls:=.type "slice",data:=.fields #[B,G,.none] } };exact tail_any (ops:=[.ref s3.heap.objs.size,v]) ht hT hg (by with_unfolding_all rfl)
def Qbh (xs:List V) (lo hi:Option Int):List V:=(xs.drop (HT.sIx xs.length 0 lo)).take (HT.sIx xs.length xs.length hi - HT.sIx xs.length 0 lo)
theorem Q3k (xs:List V) (lo hi:Option Int):(Qbh xs lo hi).length<=xs.length:=by
 unfold Qbh;rw [List.length_take,List.length_drop];omega
def Qz0 (K:PySem.W.Frag):V->Option Int->Option Int->Hp->VK->Prop:=fun x lo hi H Q=>∃ a xs,x=.ref a/\SqT K H a xs /\
 ¬ (HT.sIx xs.length 0 lo=0/\HT.sIx xs.length xs.length hi=xs.length)/\∀ p,H p=none->Q (.ref p) (upd H p (.tup (Qbh xs lo hi)))
theorem sl_tup:SlR X (Qz0 X.K):=by
 intro pins s σ H x v vl Z lo hi sl Q I O hs pl J h;obtain ⟨a,xs,rfl,U,Y,q⟩:=h;cases O;obtain ⟨its,r,G,hz⟩:=I.tuple U;have B:its.toArray.size=xs.length:=by rw [O4]; exact r.length.symm
 refine ⟨"tuple",_,PyProof.Rows.slot_tuple_getitem.lookup,G.typeIs,?_⟩;refine HT.getItem_tuple_cut G hs pl J (by rw [B]; exact Y) ?_ (by rw [B]; exact hz);rw [B];refine ⟨.ref s.heap.objs.size,_,I.laid (t':=s.toks) (o:=.tup (Qbh xs lo hi)) (fun b ob q=>O1 _ q) (O8 _) ?_,rfl,q _ (I.hok.fresh (O8 _))⟩;exact ⟨F0 (Q3k xs lo hi) hz,_,(r.drop (HT.sIx xs.length 0 lo)).take (HT.sIx xs.length xs.length hi - HT.sIx xs.length 0 lo),IsTup.new _ _⟩
def Qz3 (K:PySem.W.Frag):R2:=fun x y H Q=>∃ a b ns ms,x=.ref a/\y=.ref b/\SqT K H a (ns.map V.int)/\SqT K H b (ms.map V.int)/\Q (.bl (HT.lexLt ns ms)) H
theorem Qt9 (Z:X.A.units < aa):OpR X (aV .Lt) (Qz3 X.K):=by
 intro pins s σ H x y v u Q I J O h;obtain ⟨a,b,ns,ms,rfl,rfl,U,hb,q⟩:=h;cases J;cases O;obtain ⟨its,Y,p1,_⟩:=I.tuple U;obtain ⟨B,G,p2,_⟩:=I.tuple hb;have i1:IntsAre its.toArray.toList ns:=Q6e Y;have i2:IntsAre B.toArray.toList ms:=Q6e G;exact HT.lt_tupInts p1 p2 i1 i2 Z ⟨.bl (HT.lexLt ns ms),H,I,rfl,q⟩
def Qqm (K:PySem.W.Frag):R2:=fun x y H Q=>∃ a b xs ys,x=.ref a/\y=.ref b/\SqT K H a xs/\SqT K H b ys/\xs≠[]/\xs.length + ys.length<=sizeLine /\
 (ys=[]->Q (.ref a) H)/\(ys≠[]->∀ p,H p=none->Q (.ref p) (upd H p (.tup (xs ++ ys))))
theorem Vals.nil_iff (r:Vals xs us):us=[] <-> xs=[]:=by
 cases r with
 | nil=>simp
 | cons _ _=>simp
theorem op_catT:OpR X (aW .Add) (Qqm X.K):=by
 intro pins s σ H x y v u Q I O U h;obtain ⟨a,b,xs,ys,rfl,rfl,Z,hb,Y,hz,q1,q2⟩:=h;cases O;cases U;obtain ⟨its,G,p1,_⟩:=I.tuple Z;obtain ⟨J,B,p2,_⟩:=I.tuple hb;refine HT.cat_tup p1 p2 (fun z=>Y (G.nil_iff.mp z)) (fun z=>⟨.ref a,H,I,rfl,q1 (B.nil_iff.mp z)⟩) (fun z=>?_) (by rw [<- G.length,<- B.length]; exact hz)
 refine ⟨.ref s.heap.objs.size,_,I.laid (t':=s.toks) (o:=.tup (xs ++ ys)) (fun b ob q=>O1 _ q) (O8 _) ?_,rfl,q2 (fun w=>z (B.nil_iff.mpr w)) _ (I.hok.fresh (O8 _))⟩;exact ⟨by rw [O6]; exact hz,_,G.append B,IsTup.new _ _⟩
def ixN (n:Nat) (i:Int):Option Nat:=if 0<=i then (if i < n then some i.toNat else none) else if -(n:Int)<=i then some (i + n).toNat else none
def atI {α:Type} (xs:List α) (i:Int):Option α:=(ixN xs.length i).bind fun j=>xs[j]?
theorem Qeb {i:Int} {j:Nat} (h:ixN n i=some j):seqIndex? i n=some j/\j < n/\-(n:Int)<=i/\i < n:=by
 unfold ixN at h
 by_cases h0:0<=i
 ·rw [bN h0] at h
  by_cases h1:i < n
  ·rw [bN h1] at h;have e:i.toNat=j:=Option.some.inj h;exact ⟨by rw [seqIndex_of h0 h1,e],by omega,by omega,h1⟩
  ·rw [bO h1] at h; cases h
 ·rw [bO h0] at h
  by_cases h1:-(n:Int)<=i
  ·rw [bN h1] at h;have e:(i + n).toNat=j:=Option.some.inj h;exact ⟨by rw [seqIndex_neg (by omega) h1,e],by omega,h1,by omega⟩
  ·rw [bO h1] at h; cases h
theorem atI_get {xs:List α} {i:Int} {v:α} (h:atI xs i=some v):∃ j,seqIndex? i xs.length=some j/\xs[j]?=some v/\j < xs.length/\-(xs.length:Int)<=i/\i < xs.length:=by
 unfold atI at h;cases e:ixN xs.length i with
 | none=>rw [e] at h; cases h
 | some j=>
  rw [e] at h;obtain ⟨h1,h2,B,q⟩:=Qeb e;exact ⟨j,h1,h,h2,B,q⟩
theorem Qbt (xs:List α) (v:α):atI (xs ++ [v]) (-1)=some v:=by
 have hl:(xs ++ [v]).length=xs.length + 1:=by simp
 have e:ixN (xs ++ [v]).length (-1)=some xs.length:=by
  unfold ixN;rw [hl,bO (by decide),bN (by omega)];congr 1;omega
 unfold atI;rw [e];show (xs ++ [v])[xs.length]?=some v;simp
def Q9y (b:aD):Prop:=∀ o i,subscripted b false o i=operate [o,i] (getItem o i)
def IxR (X:Cx) (r:R2):Prop:=
 ∀ (value slice:aD) (pins:List (aA × Obj)) (s:aC) (σ:St) (H:Hp) (x y:V) (v u:aB) (Q:VK),Inv X pins σ H s->RelV x v->RelV y u->r x y H Q ->
  subscripted slice false v u=operate [v,u] (getItem v u)->aI (aJ X.prog X.w) X.A (subscriptTail value slice v u) (EP X pins σ Q) X.xe s
def MtR (X:Cx) (id:String) (r:V->List V->Hp->VK->Prop):Prop:=
 ∀ (pins:List (aA × Obj)) (s:aC) (σ:St) (H:Hp) (x:V) (xs:List V) (v:aB) (us:List aB) (Q:VK),Inv X pins σ H s->RelV x v->Vals xs us->r x xs H Q ->
  aI (aJ X.prog X.w) X.A (call (.builtin id) (v :: us)) (EP X pins σ Q) X.xe s
section
variable {X:Cx} {a b:aD} {ta tb:TE} {pos:Pos}
theorem IxR.or {r O:R2} (h:IxR X r) (h':IxR X O):IxR X (fun x y H Q=>r x y H Q\/O x y H Q):=by
 intro value B pins s σ H x y v u Q I G J q hs;rcases q with q | q
 ·exact h value B pins s σ H x y v u Q I G J q hs
 ·exact h' value B pins s σ H x y v u Q I G J q hs
theorem Qqr {r:R2} (U:IxR X r) (J:PE X a ta) (Y:PE X b tb) (hs:Q9y b):PE X (.Subscript a b pos) (tOp r ta tb):=by
 intro pins s σ H Q I h;exact Subscript_ (Qug J Y I h fun v u s2 x y H2 O B G q=>U a b pins s2 σ H2 x y v u Q O B G q (hs _ _))
def Qvx (K:PySem.W.Frag):R2:=fun x y H Q=>∃ p xs i v,x=.ref p/\y=.int i/\SqL K H p xs/\atI xs i=some v/\Q v H
def Qvv (K:PySem.W.Frag):R2:=fun x y H Q=>∃ p xs i v,x=.ref p/\y=.int i/\SqT K H p xs/\atI xs i=some v/\Q v H
def Qvw:R2:=fun x y H Q=>∃ z i c,x=.str z/\y=.int i/\z.length<=sizeLine/\atI z.cps.toList i=some c/\Q (.str ⟨#[c]⟩) H
theorem ix_list:IxR X (Qvx X.K):=by
 intro value J pins s σ H x y v u Q I U Z h hs;obtain ⟨p,xs,i,z,rfl,rfl,hq,he,q⟩:=h;cases U;obtain ⟨t,rfl⟩:=Z;obtain ⟨its,r,pl,hz⟩:=I.list hq;obtain ⟨j,h1,h2,h3,h4,Y⟩:=atI_get he;obtain ⟨w,O,B⟩:=r.get h2;have hl:=r.length;have hn:=Q34;have fin:EP X pins σ Q w s:=⟨z,H,I,B,q⟩
 by_cases h0:0<=i
 ·have G:i.toNat=j:=by
   rw [seqIndex_of h0 Y] at h1;exact Option.some.inj h1
  exact item_listR pl.isList h0 (by omega) (by rw [G]; simpa using O) fin hs
 ·have G:(i + (its.toArray.size:Int)).toNat=j:=by
   rw [seqIndex_neg (by omega) h4] at h1;rw [O4,<- hl];exact Option.some.inj h1
  exact subscriptTail_builtinR (x:=w) pl.isList.typeIs slot_list_getitem.lookup
   (wpAny_getItem_list_neg (Q:=fun r s'=>r=w/\EP X pins σ Q r s') pl.isList (by omega) (by rw [O4] <;> omega) (by omega) (by rw [G]; simpa using O) ⟨rfl,fin⟩) hs
theorem ix_tup:IxR X (Qvv X.K):=by
 intro value G pins s σ H x y v u Q I J O h hs;obtain ⟨p,xs,i,z,rfl,rfl,Z,U,q⟩:=h;cases J;obtain ⟨t,rfl⟩:=O;obtain ⟨its,r,pl,hz⟩:=I.tuple Z;obtain ⟨j,h1,h2,h3,h4,h5⟩:=atI_get U;obtain ⟨w,Y,B⟩:=r.get h2;have hl:=r.length;have hn:=Q34;have fin:EP X pins σ Q w s:=⟨z,H,I,B,q⟩;exact subscriptTail_builtinR (x:=w) pl.typeIs slot_tuple_getitem.lookup
  (getItem_tuple (j:=j) (Q:=fun r s'=>r=w/\EP X pins σ Q r s') pl (by omega) (by omega) (by rw [O4,<- hl]; exact h1) (by simpa using Y) ⟨rfl,fin⟩) hs
theorem Qty:IxR X Qvw:=by
 intro value B pins s σ H x y v u Q I G O h hs;obtain ⟨z,i,c,rfl,rfl,hz,U,q⟩:=h;obtain ⟨t,rfl⟩:=G;obtain ⟨t',rfl⟩:=O;obtain ⟨j,h1,h2,h3,Y,J⟩:=atI_get U;have hl:z.cps.toList.length=z.length:=by simp [Str.length]
 rw [hl] at h1 Y J;have Z:=Q34;exact tail_any (typeIs_str s z t) slot_str_getitem.lookup (getItem_str (c:=c) (by
  have e1:decide (i < -(2 ^ 63:Int))=false:=bP (by omega);have e2:decide (i>=2 ^ 63)=false:=bP (by omega);rw [e1,e2,Bool.or_false]) (by rw [h1]; simpa using h2) ⟨.str ⟨#[c]⟩,H,I.tok _,⟨_,rfl⟩,q⟩) hs
def rIx (K:PySem.W.Frag):R2:=fun x y H Q=>Qvx K x y H Q\/Qvv K x y H Q\/Qvw x y H Q
theorem Qtz:IxR X (rIx X.K):=ix_list.or (ix_tup.or Qty)
theorem Qcr (its:List aB) (n j:Nat) (u:aB):Obj.mapSeq (·.setIfInBounds j u) { cls:=.type "list",data:=.seq its.toArray n }={ cls:=.type "list",data:=.seq (its.set j u).toArray n }:=by
 simp [Obj.mapSeq]
theorem Inv.lst {pins:List (aA × Obj)} (I:Inv X pins σ H s) (h:H p=some (.lst xs)) :
  ∃ (its:List aB) (n:Nat),Vals xs its/\s.heap.get? p=some { cls:=.type "list",data:=.seq its.toArray n }/\xs.length<=sizeLine:=by
 obtain ⟨z,its,n,r,e⟩:=I.hok p _ h;exact ⟨its,n,r,e,z⟩
theorem Inv.lstUpd {pins:List (aA × Obj)} {ys:List V} {its its':List aB} {n B:Nat} {f:Obj->Obj} (I:Inv X pins σ H s) (h:H p=some (.lst xs))
  (J:s.heap.get? p=some { cls:=.type "list",data:=.seq its.toArray n }) (G:f { cls:=.type "list",data:=.seq its.toArray n }={ cls:=.type "list",data:=.seq its'.toArray B }) (r:Vals ys its') (hz:ys.length<=sizeLine) (t:Nat) :
  Inv X pins σ (upd H p (.lst ys)) { s with heap:=s.heap.update p f,toks:=t }:=by
 have e:(s.heap.update p f).get? p=some { cls:=.type "list",data:=.seq its'.toArray B }:=by
  rw [G8 f J (by rw [G] <;> rfl),G]
 refine I.write (x:=p) (e:=p) (by rw [h]; trivial) (.inl rfl) (fun b u O q=>(E7 _ _ (Ne.symm O)).trans q) ⟨_,e⟩ ?_
 exact ⟨hz,its',B,r,e⟩
def Qvt:V->V->V->Hp->(Hp->Prop)->Prop:=fun o i v H Q=>∃ p xs k j,o=.ref p/\i=.int k/\H p=some (.lst xs)/\ixN xs.length k=some j/\Q (upd H p (.lst (xs.set j v)))
theorem Qhk:Qxq X Qvt:=by
 intro pins s σ H o i v ov iv u Q I ro Y rv h;obtain ⟨p,xs,k,j,rfl,rfl,hp,Z,q⟩:=h;cases ro;obtain ⟨t,rfl⟩:=Y;obtain ⟨its,n,r,B,hz⟩:=I.lst hp;obtain ⟨h1,h2,U,J⟩:=Qeb Z;have hl:=r.length;have hn:=Q34;have O:Inv X pins σ (upd H p (.lst (xs.set j v))) { s with heap:=s.heap.update p (Obj.mapSeq (·.setIfInBounds j u)) }:=
  I.lstUpd hp B (Qcr its n j u) (r.set rv j) (by rw [D9]; exact hz) s.toks
 by_cases h0:0<=k
 ·have G:k.toNat=j:=by
   rw [seqIndex_of h0 J] at h1;exact Option.some.inj h1
  exact PySem.W.ki_setAt B h0 (by omega) (by rw [O4,<- hl]; exact J) (by rw [G]; exact ⟨_,O,q⟩)
 ·have G:(k + (its.toArray.size:Int)).toNat=j:=by
   rw [seqIndex_neg (by omega) U] at h1;rw [O4,<- hl];exact Option.some.inj h1
  exact PySem.W.ki_setBack B (by omega) (by rw [O4,<- hl]; exact U) (by omega) (by rw [G]; exact ⟨_,O,q⟩)
theorem Q8z (lo hi:Option Int) (n:Nat):(bD lo hi none n).1=((HT.sIx n 0 lo:Nat):Int)/\(bD lo hi none n).2.1=((HT.sIx n n hi:Nat):Int)/\(bD lo hi none n).2.2=1:=by
 refine ⟨?_,?_,rfl⟩
 ·cases lo with
  | none=>simp [bD,HT.sIx]
  | some i=>
   simp only [bD,HT.sIx,Option.getD_none,show (1:Int) > 0 by decide,if_true]
   by_cases h:i < 0
   ·simp only [h,if_true] <;> omega
   ·simp only [h,if_false] <;> omega
 ·cases hi with
  | none=>simp [bD,HT.sIx]
  | some i=>
   simp only [bD,HT.sIx,Option.getD_none,show (1:Int) > 0 by decide,if_true]
   by_cases h:i < 0
   ·simp only [h,if_true] <;> omega
   ·simp only [h,if_false] <;> omega
theorem Q6y (its:List aB) (lo hi:Option Int):slicePick its.toArray lo hi none=((its.drop (HT.sIx its.length 0 lo)).take (HT.sIx its.length its.length hi - HT.sIx its.length 0 lo)).toArray:=by
 obtain ⟨h1,h2,q⟩:=Q8z lo hi its.toArray.size;unfold slicePick;rw [h1,h2,q];simp only [sliceRange_one,pick_run,O4] <;> rfl
def Qz1 (K:PySem.W.Frag):V->Option Int->Option Int->Hp->VK->Prop:=fun x lo hi H Q=>∃ a xs,x=.ref a/\SqL K H a xs/\∀ p,H p=none->Q (.ref p) (upd H p (.lst (Qbh xs lo hi)))
theorem Qmj:SlR X (Qz1 X.K):=by
 intro pins s σ H x v Z Y lo hi sl Q I O hs pl J h;obtain ⟨a,xs,rfl,U,q⟩:=h;cases O;obtain ⟨its,r,G,hz⟩:=I.list U;have B:=r.length;refine ⟨"list",_,slot_list_getitem.lookup,G.isList.typeIs,?_⟩;refine wpAny_getItem_list_slice G.isList hs pl J .none (by simp) ?_ (by rw [O4] <;> omega);rw [Q6y,<- B];refine ⟨.ref s.heap.objs.size,_,I.laid (t':=s.toks) (o:=.lst (Qbh xs lo hi)) (fun b ob q=>O1 _ q) (O8 _) ?_,rfl,q _ (I.hok.fresh (O8 _))⟩;exact ⟨F0 (Q3k xs lo hi) hz,_,0,(r.drop (HT.sIx xs.length 0 lo)).take (HT.sIx xs.length xs.length hi - HT.sIx xs.length 0 lo),D8 _ rfl⟩
theorem Q9s:K1 X (.builtin "len") (fun xs H Q=>∃ p ys,xs=[.ref p]/\(SqL X.K H p ys\/SqT X.K H p ys)/\Q (.int ys.length) H):=by
 intro pins s σ H xs us Q I r h;obtain ⟨p,ys,rfl,G,q⟩:=h;obtain ⟨u,rfl,O⟩:=Q1w r;cases O;have U:=Q34;rcases G with G | G
 ·obtain ⟨its,J,pl,hz⟩:=I.list G;have B:=J.length;exact Calls.call_len_list pl.isList (by simp only [O4] <;> omega) ⟨.int ys.length,H,I.tok _,⟨s.toks + 1,by rw [O4,B]⟩,q⟩
 ·obtain ⟨its,J,pl,hz⟩:=I.tuple G;have B:=J.length;exact len_tuple pl (by simp only [O4] <;> omega) ⟨.int ys.length,H,I.tok _,⟨s.toks + 1,by rw [O4,B]⟩,q⟩
theorem Q9r:K1 X (.builtin "len") (fun xs H Q=>∃ z,xs=[.str z]/\z.length<=sizeLine/\Q (.int z.length) H):=by
 intro pins s σ H xs us Q I r h;obtain ⟨z,rfl,hz,q⟩:=h;obtain ⟨u,rfl,t,rfl⟩:=Q1w r;have B:=Q34;exact len_str (by omega) ⟨.int z.length,H,I.tok _,⟨_,rfl⟩,q⟩
theorem Q19:K1 X (.type "tuple") (fun xs H Q=>∃ p ys,xs=[.ref p]/\((SqL X.K H p ys/\∀ l,H l=none->Q (.ref l) (upd H l (.tup ys)))\/(SqT X.K H p ys/\Q (.ref p) H))):=by
 intro pins s σ H xs us Q I r h;obtain ⟨p,ys,rfl,h⟩:=h;obtain ⟨u,rfl,U⟩:=Q1w r;cases U;rcases h with ⟨B,q⟩ | ⟨B,q⟩
 ·obtain ⟨its,G,pl,hz⟩:=I.list B;have J:=G.length;refine call_tuple_list pl.isList (fun h' kp=>?_) (by simp only [O4] <;> omega);have O:Inv X pins σ H { s with heap:=h' }:=I.kept (t':=s.toks) kp;have Y:Inv X pins σ (upd H h'.objs.size (.tup ys)) { s with heap:=h'.push { cls:=.type "tuple",data:=.seq its.toArray } }:=
   O.laid (t':=s.toks) (fun b o e=>O1 _ e) (O8 _) (show ObjOk X.prog X.w _ _ _ (.tup ys) from ⟨hz,its,G,IsTup.new _ _⟩)
  exact ⟨.ref h'.objs.size,_,Y,rfl,q _ (O.hok.fresh (O8 _))⟩
 ·obtain ⟨its,G,pl,hz⟩:=I.tuple B;exact call_tuple_same pl ⟨.ref p,H,I,rfl,q⟩
def tyV (K:PySem.W.Frag) (T:String) (x:V) (H:Hp):Prop:=match x with
 | .str _=>T = "str"
 | .int _=>T = "int"
 | .ref p=>(T = "list" /\ ∃ xs,SqL K H p xs)\/(T = "tuple" /\ ∃ o,K.lookup p=some o/\o.cls=.type "tuple" /\ o.dict=none) \/
   (T = "dict" /\ ((∃ kvs,H p=some (.dK kvs))\/∃ kvs,H p=some (.dT kvs)))\/(T = "set" /\ ∃ S n,H p=some (.set S n))
 | _=>False
theorem Qr9 {pins:List (aA × Obj)} {T:String} {x:V} {v:aB} (I:Inv X pins σ H s) (r:RelV x v) (ty:tyV X.K T x H) :
  s.TypeIs v T/\∀ a,v=.ref a->∃ ob,s.heap.get? a=some ob/\ob.dict=none:=by
 cases x with
 | str z=>
  obtain ⟨t,rfl⟩:=r;cases (show T = "str" from ty);exact ⟨typeIs_str s z t,fun _ e=>nomatch e⟩
 | int i=>
  obtain ⟨t,rfl⟩:=r;cases (show T = "int" from ty);exact ⟨typeIs_int s i t,fun _ e=>nomatch e⟩
 | ref p=>
  cases r;rcases ty with ⟨rfl,xs,G⟩ | ⟨rfl,o,q,B,hd⟩ | ⟨rfl,q⟩ | ⟨rfl,S,n,q⟩
  ·obtain ⟨its,_,pl,_⟩:=I.list G;refine ⟨pl.isList.typeIs,fun a e=>?_⟩;cases e;obtain ⟨o,n,e,c,hd,_⟩:=pl;exact ⟨o,e,hd⟩
  ·refine ⟨⟨o,I.kIn p o q,B⟩,fun a e=>?_⟩
   cases e;exact ⟨o,I.kIn _ o q,hd⟩
  ·have z:∃ o,s.heap.get? p=some o/\o.ExactDict:=by
    rcases q with ⟨kvs,q⟩ | ⟨kvs,q⟩
    ·obtain ⟨_,_,_,_,o,_,_,e,ex,_⟩:=I.hok p _ q;exact ⟨o,e,ex⟩
    ·obtain ⟨_,_,_,_,o,_,_,e,ex,_⟩:=I.hok p _ q;exact ⟨o,e,ex⟩
   obtain ⟨o,e,ex⟩:=z;refine ⟨⟨o,e,ex.1⟩,fun a e2=>?_⟩
   cases e2;exact ⟨o,e,ex.2.1⟩
  ·obtain ⟨o,_,_,_,e,ex,_⟩:=I.hok p _ q;refine ⟨⟨o,e,ex.1⟩,fun a e2=>?_⟩
   cases e2;exact ⟨o,e,ex.2.1⟩
 | _=>exact False.elim ty
def tBM (K:PySem.W.Frag) (T:String) (r:V->List V->Hp->VK->Prop) (to:TE) (t:TA):TE:=fun σ H Q=>to σ H fun x H1=>tyV K T x H1/\t σ H1 fun xs H2=>r x xs H2 Q
variable {o e:aD} {es:List aD} {to:TE} {t:TA} {name:Str} {apos cpos:Pos} {T id:String} {r:V->List V->Hp->VK->Prop}
theorem Qip (pa:PlainAttrs T) (slot:Slot T name id) (O:typeOf (.builtin id)=pure (.type "method_descriptor")) (hm:MtR X id r) (ho:PE X o to) (ha:PA X (e :: es) t)
  (B:ak o name X.env (aM o X.env)=aM o X.env:=by rfl)
  (J:((aU cpos (aO (e :: es) X.env)).all (fun x=>!x.1) && (backToKw cpos (keywordEach [] X.env)).all (fun x=>x.1.isSome)
   && decide ((e :: es).length + ([]:List Keyword).length + (if ([]:List Keyword).isEmpty then 0 else 1) < 30))=true:=by rfl)
  (G:(apos.endLine == cpos.line)=true:=by rfl) (hs:aO (e :: es) X.env=(false,aM e X.env) :: aO es X.env:=by rfl) (q:(aU cpos (aO es X.env)).any (·.1)=false:=by rfl) :
  PE X (.Call (.Attribute o name apos) (e :: es) [] cpos) (tBM X.K T r to t):=by
 intro pins s σ H Q I h;refine wpAny_Call_method_late B J G rfl (thn (ho pins s σ H _ I h) fun v s1 ⟨x,H1,Z,Y,ty,q1⟩=>?_)
 obtain ⟨h1,h2⟩:=Qr9 Z Y ty;refine ⟨T,id,pa,slot,O,h1,h2,?_⟩;have U:=ha cpos pins s1 σ H1 _ Z q1;rw [hs] at U ⊢;refine Calls.callWith_builtin (by show (false || (aU cpos (aO es X.env)).any (·.1))=false; rw [q] <;> rfl) (Calls.evalArgs_plain ?_);exact thn U fun us s2 ⟨vs,H2,I2,r2,q2⟩=>hm pins s2 σ H2 x vs v us Q I2 Y r2 q2
end
def MtM (X:Cx) (id:String) (r:V->List V->Hp->VK->Prop):Prop:=
 ∀ (pins:List (aA × Obj)) (s:aC) (σ:St) (H:Hp) (x:V) (xs:List V) (v:aB) (us:List aB) (Q:VK),Inv X pins σ H s->RelV x v->Vals xs us->r x xs H Q ->
  aI (aJ X.prog X.w) X.A (call (.builtin id) (v :: us)) (EP X pins σ Q) X.xe s
theorem Vals.one:∀ {x:V} {us:List aB},Vals [x] us->∃ u,us=[u]/\RelV x u
 | _,_,.cons r .nil=>⟨_,rfl,r⟩
theorem Vals.rep (h:Vals xs us):∀ k:Nat,Vals (List.replicate k xs).flatten (List.replicate k us).flatten
 | 0=>.nil
 | k + 1=>by
  rw [List.replicate_succ,List.replicate_succ,List.flatten_cons,List.flatten_cons];exact Vals.append h (Vals.rep h k)
theorem Q3a (its:List aB):∀ (k:Nat) (q:List aB),
  List.foldl (fun G B=>G ++ B) q.toArray (List.replicate k its.toArray)=(q ++ (List.replicate k its).flatten).toArray
 | 0,q=>by simp
 | k + 1,q=>by
  have e:q.toArray ++ its.toArray=(q ++ its).toArray:=by simp
  have e2:(q ++ its) ++ (List.replicate k its).flatten=q ++ (List.replicate (k + 1) its).flatten:=by
   rw [List.replicate_succ,List.flatten_cons,F8]
  rw [<- e2,<- Q3a its k (q ++ its),<- e,List.replicate_succ,List.foldl_cons]
variable {pins:List (aA × Obj)} {σ:St} {H:Hp} {s:aC} {l b:aA} {xs ys zs:List V}
theorem Inv.lset {its its':List aB} {n:Nat} {f:Array aB->Array aB} {t':Nat} (I:Inv X pins σ H s) (B:H l=some (.lst xs))
  (e:s.heap.get? l=some { cls:=.type "list",data:=.seq its.toArray n }) (J:f its.toArray=its'.toArray) (G:Vals ys its') (hz:ys.length<=sizeLine) :
  Inv X pins σ (upd H l (.lst ys)) { s with heap:=s.heap.update l (Obj.mapSeq f),toks:=t' }:=by
 have q:=PySem.IsL.update e f;rw [J] at q;refine I.write (x:=l) (e:=l) (by rw [B]; exact trivial) (.inl rfl) (fun Y u U O=>(E7 s.heap (Obj.mapSeq f) (Ne.symm U)).trans O) ⟨_,q⟩ ?_
 exact ⟨hz,its',_,G,q⟩
theorem Inv.lnew {its:List aB} {t':Nat} (I:Inv X pins σ H s) (B:Vals ys its) (hz:ys.length<=sizeLine) :
  Inv X pins σ (upd H s.heap.objs.size (.lst ys)) { s with heap:=s.heap.push { cls:=.type "list",data:=.seq its.toArray },toks:=t' }:=
 I.laid (fun _ _ q=>O1 _ q) (O8 _) ⟨hz,its,0,B,D8 _ rfl⟩
theorem Inv.fresh (I:Inv X pins σ H s):H s.heap.objs.size=none:=I.hok.fresh (O8 _)
theorem Inv.lstM (I:Inv X pins σ H s) (q:H l=some (.lst xs)):xs.length<=sizeLine/\∃ (its:List aB) (n:Nat),Vals xs its/\xs.length=its.length/\s.heap.get? l=some { cls:=.type "list",data:=.seq its.toArray n }:=by
 obtain ⟨z,its,n,r,e⟩:=I.hok l _ q;exact ⟨z,its,n,r,r.length,e⟩
theorem Qat (h:n<=sizeLine):Builtin.List.listTooLong n=false:=by
 unfold Builtin.List.listTooLong;exact bP (by omega)
def Qn6:V->List V->Hp->VK->Prop:=fun x vs H Q=>∃ l xs y,x=.ref l/\vs=[y]/\H l=some (.lst xs)/\xs.length < sizeLine/\Q .non (upd H l (.lst (xs ++ [y])))
theorem Qft:MtM X "list.append" Qn6:=by
 intro pins s σ H x vs v us Q I G O h;obtain ⟨l,xs,y,rfl,rfl,B,hz,q⟩:=h;cases G;obtain ⟨u,rfl,J⟩:=O.one;obtain ⟨z,its,n,r,hl,e⟩:=I.lstM B;refine au F.slot_list_append ⟨_,e,rfl⟩ F.entry_list_append (F.args_list_append_2 _ _) (PySem.list_append l its.toArray n u (by rw [O4]; omega)) ⟨e,?_⟩;refine ⟨.non,_,I.lset (its':=its ++ [u]) B e (by simp) (r.append (.cons J .nil)) ?_,rfl,q⟩;rw [O6,List.length_singleton];omega
def Qn4:V->List V->Hp->VK->Prop:=fun x vs H Q=>∃ l b xs zs,x=.ref l/\vs=[.ref b]/\H l=some (.lst xs)/\H b=some (.lst zs)/\xs.length + zs.length<=sizeLine/\Q .non (upd H l (.lst (xs ++ zs)))
theorem Qfr:MtM X "list.extend" Qn4:=by
 intro pins s σ H x vs v us Q I Y rv h;obtain ⟨l,b,xs,zs,rfl,rfl,O,hB,hz,q⟩:=h;cases Y;obtain ⟨u,rfl,ru⟩:=rv.one;cases ru;obtain ⟨z,its,n,r,hl,e⟩:=I.lstM O;obtain ⟨z2,B,U,r2,Z,e2⟩:=I.lstM hB;have J:its.toArray.size + B.toArray.size<=sizeLine:=by rw [O4,O4]; omega
 have G:¬ (!its.toArray.isEmpty && Builtin.List.listTooLong (its.toArray.size + B.toArray.size))=true:=by
  rw [Qat J,Bool.and_false];exact D2
 refine au F.slot_list_extend ⟨_,e,rfl⟩ F.entry_list_extend (F.args_list_extend_2 _ _)
  (AutoSeq1.list_extend_list_list_0 l its.toArray n b B.toArray U G (by rw [O4]; omega) (by omega)) ⟨e,e2,?_⟩
 refine ⟨.non,_,I.lset (its':=its ++ B) O e (by simp) (r.append r2) ?_,rfl,q⟩;rw [O6];omega
def Qz4:R2:=fun x y H Q=>∃ l b xs zs,x=.ref l/\y=.ref b/\H l=some (.lst xs)/\H b=some (.lst zs)/\xs.length + zs.length<=sizeLine/\∀ p,H p=none->Q (.ref p) (upd H p (.lst (xs ++ zs)))
theorem Q2u:OpR X (aW .Add) Qz4:=by
 intro pins s σ H x y v u Q I J U h;obtain ⟨l,b,xs,zs,rfl,rfl,Y,Z,hz,q⟩:=h;cases J;cases U;obtain ⟨z,its,n,r,hl,e⟩:=I.lstM Y;obtain ⟨z2,B,n2,G,O,e2⟩:=I.lstM Z;refine PySem.P.add_list e e2 ?_ (by rw [O4,O4]; omega);have ea:its.toArray ++ B.toArray=(its ++ B).toArray:=by simp
 rw [ea];exact ⟨.ref _,_,I.lnew (t':=s.toks) (r.append G) (by rw [O6]; omega),rfl,q _ I.fresh⟩
def Qz2:R2:=fun x y H Q=>∃ l k xs,x=.ref l/\y=.int k/\H l=some (.lst xs)/\-(2 ^ 63)<=k/\k < 2 ^ 63/\xs.length * k.toNat<=sizeLine /\
 ∀ p,H p=none->Q (.ref p) (upd H p (.lst (List.replicate k.toNat xs).flatten))
theorem Q9d (xs:List α) (k:Nat):(List.replicate k xs).flatten.length=k * xs.length:=by
 induction k with
 | zero=>simp
 | succ k q=>rw [List.replicate_succ,List.flatten_cons,O6,q,Nat.succ_mul,Nat.add_comm]
theorem Qt5:OpR X (aW .Mult) Qz2:=by
 intro pins s σ H x y v u Q I rx ry h;obtain ⟨l,k,xs,rfl,rfl,hH,h1,h2,hz,q⟩:=h;cases rx;obtain ⟨t,rfl⟩:=ry;obtain ⟨z,its,n,r,hl,e⟩:=I.lstM hH;have O:its.toArray.size * k.toNat<=sizeLine:=by rw [O4,<- hl]; exact hz
 have J:¬ its.toArray.size * k.toNat > (2 ^ 63 - 1) / 8:=by
  have:(sizeLine:Nat)<=(2 ^ 63 - 1) / 8:=by decide
  omega
 have Y:¬ (!Builtin.List.listFitsIndex k)=true:=by
  rw [fitsIndex_both h1 h2];exact D2
 have B:¬ Builtin.List.listTooLong (its.toArray.size * k.toNat)=true:=by
  rw [Qat O];exact D2
 have G:List.foldl (fun Z x2=>Z ++ x2) #[] (List.replicate (if its.toArray.isEmpty=true then 0 else k.toNat) its.toArray)=(List.replicate k.toNat its).flatten.toArray:=by
  have f0:∀ m:Nat,List.foldl (fun Z x2=>Z ++ x2) #[] (List.replicate m its.toArray)=(List.replicate m its).flatten.toArray:=fun m=>by
   have:=Q3a its m [];rw [List.nil_append] at this;exact this
  rw [f0];cases its with
  | nil=>simp
  | cons a r'=>rw [bO (by simp)]
 refine wpAny_binaryOp_repeat_ref (T := "list") (U := "int") (by decide) ⟨_,e,rfl⟩ (fun s'=>typeIs_int s' k t) noFill_list_mul F.fills_int_mul F.slot_int_rmul repeat_list F.slot_int_index.lookup
  (au F.slot_int_rmul (typeIs_int s k t) F.entry_int_rmul (F.args_int_rmul_2 _ _) (int___rmul___int_list k t l its.toArray n)
   ⟨e,rfl,⟨_,e,rfl⟩,au F.slot_list_mul ⟨_,e,rfl⟩ F.entry_list_mul (F.args_list_mul_2 _ _) (AutoListH.list___mul___list_int_3 l its.toArray n k t Y J B) ⟨e,?_⟩⟩)
 rw [G];exact ⟨.ref _,_,I.lnew (t':=s.toks) (r.rep k.toNat) (by rw [Q9d,Nat.mul_comm]; exact hz),rfl,q _ I.fresh⟩
end L2
namespace Att
open PySem PySem.W PySem.Calls PyProof.Rows
theorem Q44 {P:Params} {h:Heap}:∀ (ns:List Int) (vs:List aB),WellAll P h vs (ns.map WData.int)->IntsAre vs ns:=by
 intro ns
 induction ns with
 | nil=>
  intro vs w;rw [List.map_nil] at w;cases w;exact .nil
 | cons n ns q=>
  intro vs w;rw [F2] at w;cases w with
  | cons a b=>
   cases a;exact .cons _ _ (q _ b)
theorem Qf2 {l:OpenLaw} {n:Nat} (hn:l.most=some n) {P:Params} {h:Heap} {args:List WData} {G:List aB}
  (B:l.row.toRowW.claim.pre args=true) (Z:WellAll P h G args) :
  ∃ a vs ns,G=[Value.ref a]/\args=[WData.list (ns.map WData.int)]/\h.get? a=some { cls:=.type "list",data:=.seq vs.toArray }/\IntsAre vs ns/\ns.length<=n:=by
 have Y:WShape.hasAll [] args [.list .int]=true:=(pre_splitW B).1;have hc:l.pre.holds [] { args:=args }=true:=(pre_splitW B).2;obtain ⟨d,r,rfl,h1,h2⟩:=hasAllW_cons Y;obtain rfl:=hasAllW_nil h2;obtain ⟨xs,rfl,h3⟩:=hasW_list h1;obtain ⟨ns,rfl⟩:=items_int h3;have J:ns.length<=n:=by
  unfold OpenLaw.pre at hc;have U:(WTm.not (.lt (.lit (.int (n:Int))) (.len (.arg 0)))).holds [] { args:=[.list (ns.map .int)] }=true:=by
   have U:=(holds_andW hc).1;rw [hn] at U;exact U
  have O:=condW_of U (w_not (w_lt w_lit (w_len_list (w_arg rfl))));rw [O2] at O;refine Nat.le_of_not_lt fun q=>?_
  have q':(n:Int) < ((ns.length:Nat):Int):=by omega
  first
   | (rw [bQ q'] at O; exact absurd O (by decide))
   | (simp at O; omega)
 cases Z with
 | cons w1 w2=>
  cases w2;cases w1 with
  | list ho I=>exact ⟨_,_,ns,rfl,rfl,ho,Q44 ns _ I,J⟩
theorem Qfa (l:OpenLaw) (args:List WData):l.row.toRowW.claim.post args (.bool true) args=true:=
 postW_of (r:=l.row.toRowW) (X:=(true == true))
  (show WShape.has [] (.bool true) .bool=true by first | rfl | decide | simp [WShape.has,WShape.arms,WShape.armsAll])
  (show (WTm.eq .res (.lit (.bool true))).value [] { args:=args,res:=some (.bool true),after:=args }=some (.bool (true == true)) from w_eq_bool (w_res rfl) w_lit) rfl
theorem attach_call {l:OpenLaw} {n:Nat} {q:aN} {I:List Str} {XP:(Str->Option aB)->Heap->Prop} {YP:aL->Heap->Prop} {d:DefRec}
  (hn:l.most=some n) (a4:d.params.defaults=[])
  (call:∀ (w:aL) (s₀ B:aC) (mg mb:Str->Option aB) (fa:aA) (o:Obj) (pm cd J:aB) (a:aA) (vs:List aB) (ns:List Int),
   Ground q I [] XP w s₀ mg mb B.heap->YP w B.heap ->
   B.heap.get? fa=some o->o.data=.func (docDef d.name d.params d.body d.scope pm cd J)->B.heap.CodeRec cd d.name->mg d.name=some (.ref fa) ->
   B.heap.get? a=some { cls:=.type "list",data:=.seq vs.toArray }->IntsAre vs ns->ns.length<=n->B.gens=#[] ->
   codeAny (aJ l.prog w) callerA (.call (.ref fa) ⟨[.ref a],[]⟩) (fun r s'=>r=.ok (.ret (.bool true))/\OldK B.heap s'.heap/\s'.os=B.os/\AllBare s'.gens) B) :
  WalkO q I XP YP l.row.toRowW d [] (fun f vs=>PySem.call f vs):=by
 intro w s₀ B mg mb G Y fa o pm cd J dV kV ho hd a5 hD a6 hg args a8 as U a7 b0 a3 a9;obtain rfl:dV=.none:=Dflts.none hD a4;obtain rfl:kV=.none:=Dflts.noKw hD;obtain ⟨a,vs,ns,rfl,rfl,Z,O,a2⟩:=Qf2 hn U a3;refine enter_call (bG (call w s₀ B mg mb fa o pm cd J a vs ns G Y ho (fd_plain hd) a5 a6 Z O a2 hg) fun r s' hq=>?_)
 obtain ⟨rfl,h2,h3,h4⟩:=hq;exact ⟨.inl ⟨.bool true,.bool true,[],rfl,fun _=>rfl,.bool true,Qfa l _,fun _=>⟨List.Pairwise.nil,fun _ hm=>(nomatch hm)⟩⟩,h2,h3,h4⟩
end Att
namespace L2
open PySem PySem.Spec PyProof.Rows
variable {a f it l z i1 i2 l1 l2:aA} {fd:aP} {sp:Sp} {ns:List Int} {n k1 k2:Nat} {st:aK} {ps:List Str} {h':Heap} {Q:aB->aC->Prop} {t1 t2:Bool} {b:aB} {xs:List V}
theorem Q7p:∀ {vs:List aB} {ns:List Int},IntsAre vs ns->Vals (ns.map V.int) vs
 | _,_,.nil=>.nil
 | _,_,.cons n t h=>.cons ⟨t,rfl⟩ (Q7p h)
def Qun (H:Hp):Prop:=∀ b,H b=none\/∃ o xs,H b=some (.frz o (.lst xs))
theorem Qja {P:aN} {w:aL} {K:PySem.W.Frag} {mg mb:Str->Option aB} {CX:CXT} {k:Nat} {fa a:aA} {fd:aP} {x:Str} {sp:Sp} {B:aC} {vs:List aB} {ns:List Int}
  (KX:K.In B.heap) (a3:B.heap.Ns aS mg) (I:B.heap.Ns builtinsNs mb) (a7:∀ x:Str,x≠"__name__" -> mb x=aZ x) (a4:B.heap.NoLimit) (hg:B.gens=#[])
  (ha:B.heap.get? a=some { cls:=.type "list",data:=.seq vs.toArray }) (hi:IntsAre vs ns) (hl:ns.length<=sizeLine) (hr:Room k callerA)
  (F:∀ base:Heap,K.In base->base.Ns aS mg->FnOk P w K mg base CX k fa fd [x] sp) (U:∀ (s:aC) (u:aB),BindsTo s fd ⟨[u],[]⟩ [(x,u)])
  (a6:∀ H:Hp,Qun H->SqL K H a (ns.map V.int)->sp [.ref a] H (fun v _=>v=.bl true) fun _ _ _=>False)
  (a8:∀ H e s',CX [] H B (fun _ _ _=>False) e s'->False) :
  codeAny (aJ P w) callerA (.call (.ref fa) ⟨[.ref a],[]⟩) (fun r s'=>r=.ok (.ret (.bool true))/\OldK B.heap s'.heap/\s'.os=B.os/\AllBare s'.gens) B:=by
 have rv:=Q7p hi;have a2:=hi.length;have O:∀ H:Hp,Qun H->SqL K H a (ns.map V.int)->HOk P w H B.heap->(∀ b,H b≠none->b=a)->(H a≠none->K.lookup a=none) ->
   codeAny (aJ P w) callerA (.call (.ref fa) ⟨[.ref a],[]⟩) (fun r s'=>r=.ok (.ret (.bool true))/\OldK B.heap s'.heap/\s'.os=B.os/\AllBare s'.gens) B:=by
  intro H hO hS hok hA hK;have G:∀ {b:aA} {o:Obj},B.heap.get? b=some o->H b=none->(Q9i B.heap H).get? b=some o:=fun e n=>Qjg e n
  have a9:∀ {b:aA} {o:Obj} {es:Array DictEntry} {Y:Nat},B.heap.get? b=some o->o.data=.dict es Y->H b=none:=fun {b o es Y} e d=>by
   cases q:H b with
   | none=>rfl
   | some u=>
    have e':b=a:=hA b (by rw [q]; simp);subst e';rw [ha] at e; cases e;have d':Data.seq vs.toArray _=Data.dict es Y:=d;cases d'
  have J:∀ {b:aA} {m:Str->Option aB},B.heap.Ns b m->(Q9i B.heap H).Ns b m:=fun {b m} ⟨o,es,Y,e,d,r⟩=>⟨o,es,Y,G e (a9 e d),d,r⟩
  have a5:K.In (Q9i B.heap H):=fun b o e=>G (KX b o e) (by
   cases q:H b with
   | none=>rfl
   | some u=>
    have e':b=a:=hA b (by rw [q]; simp);subst e';rw [hK (by rw [q]; simp)] at e; cases e)
  have hM:Mod K mg (Q9i B.heap H):=⟨a5,J a3,⟨mb,J I,a7⟩,let ⟨mc,h1,h2⟩:=a4; ⟨mc,J h1,h2⟩⟩;have e0:Env0 P w K mg (Q9i B.heap H) callerA [] B H:=⟨rfl,hM,fun b o e=>Qp0 e,Nat.le_of_eq (Qg8 _ _),trivial,fun b I=>absurd (show b∈([]:List aA) from I) (by simp),hok,.of_eq hg⟩;refine bG ((F _ a5 (J a3)).run callerA [] B H ⟨[.ref a],[]⟩ [.ref a] [.ref a] _ _ hr e0 (U B (.ref a)) (.cons rfl .nil) (a6 H hO hS)) fun r s' h=>?_
  cases r with
  | error e=>exact (a8 H e s' h).elim
  | ok fl=>
   cases fl with
   | next=>exact False.elim h
   | brk=>exact False.elim h
   | cont=>exact False.elim h
   | ret u=>
    obtain ⟨v,H',os,bare,un,Z,r',q⟩:=h;have q':v=.bl true:=q;subst q';obtain rfl:u=Value.bool true:=r';refine ⟨rfl,OldK.of_keep fun b o e=>?_,os,bare⟩;cases q:H b with
    | none=>exact un.keep b o e q (by intro z; exact absurd (show b∈([]:List aA) from z) (by simp)) (by simp)
    | some u=>
     rcases hO b with z | ⟨ob,xs,z⟩
     ·rw [q] at z; cases z
     ·have z2:=un.frzs b ob _ z;obtain ⟨e1,_⟩:=hok b _ z;obtain ⟨e2,_⟩:=Z b _ z2;rw [e] at e1; cases e1;exact e2
 cases hk:K.lookup a with
 | some o=>
  have e:=KX a o hk;rw [ha] at e;cases e;refine O (fun _=>none) (fun _=>.inl rfl) (.inr ⟨_,vs.toArray,_,hk,rfl,rfl,rfl,by rw [O4,a2]; exact hl,by simpa using rv⟩) (fun b u z=>by have z':(none:Option HO)=some u:=z; cases z') (fun b z=>absurd rfl z) fun z=>absurd rfl z
 | none=>
  refine O (fun b=>if b=a then some (.frz { cls:=.type "list",data:=.seq vs.toArray } (.lst (ns.map V.int))) else none) (fun b=>?_) (.inl (.inr ⟨{ cls:=.type "list",data:=.seq vs.toArray },bN rfl⟩)) (fun b u z=>?_) (fun b z=>?_) fun _=>hk
  ·by_cases I:b=a
   ·exact .inr ⟨_,_,bN I⟩
   ·exact .inl (bO I)
  ·by_cases I:b=a
   ·have z':=(bN I).symm.trans z;cases z';subst I;exact ⟨ha,by rw [O2]; exact hl,vs,_,rv,ha⟩
   ·have z':=(bO I).symm.trans z;cases z'
  ·by_cases I:b=a
   ·exact I
   ·exact absurd (bO I) z
theorem walk_of {l:PySem.W.OpenLaw} {n k:Nat} {q:aN} {I:List Str} {XP:(Str->Option aB)->Heap->Prop} {YP:aL->Heap->Prop} {d:DefRec} {K:Params->PySem.W.Frag} {CX:aL->CXT} {sp:aL->Sp} {x:Str}
  (hn:l.most=some n) (a4:n<=sizeLine) (a3:d.params.defaults=[]) (hr:Room k callerA)
  (hY:∀ (w:aL) (h:Heap),YP w h->(K w.params).In h)
  (F:∀ (w:aL) (mg:Str->Option aB) (Z:aA) (h:Heap),(K w.params).In h->h.Ns aS mg->mg d.name=some (.ref Z) ->
   ∃ fd:aP,(∀ (s:aC) (u:aB),BindsTo s fd ⟨[u],[]⟩ [(x,u)]) /\
    ∀ base:Heap,(K w.params).In base->base.Ns aS mg->FnOk l.prog w (K w.params) mg base (CX w) k Z fd [x] (sp w))
  (a2:∀ (w:aL) (H:Hp) (a:aA) (ns:List Int),ns.length<=n->Qun H->SqL (K w.params) H a (ns.map V.int)->sp w [.ref a] H (fun v _=>v=.bl true) fun _ _ _=>False)
  (a5:∀ (w:aL) (H:Hp) (s:aC) (e:aB) (s':aC),CX w [] H s (fun _ _ _=>False) e s'->False) :
  PySem.W.WalkO q I XP YP l.row.toRowW d [] (fun f vs=>PySem.call f vs):=by
 refine Att.attach_call hn a3 fun w s₀ U mg mb Z o pm cd a7 a vs ns G Y ho hd a8 a6 O J B hg=>?_
 have KX:=hY w _ Y;obtain ⟨fd,hb,hF⟩:=F w mg Z _ KX G.T.g a6;exact Qja KX G.T.g G.T.b G.T.builtins G.T.nolimit hg O J (F0 B a4) hr hF hb (fun H hO hS=>a2 w H a ns B hO hS) fun H e s'=>a5 w H U e s'
def X2 (s:aK) (j:Nat):aK:=match s with
 | .ClassDef _ _ _ body _ _ _ _ _ _ _=>body.getD j (.Pass ⟨0,0,0,0⟩)
 | _=>.Pass ⟨0,0,0,0⟩
def Wi (s:aK):Arguments:=match s with
 | .FunctionDef _ a _ _ _ _ _ _ _ _=>a
 | _=>{ posonlyargs:=[],args:=[],vararg:=none,kwonlyargs:=[],kw_defaults:=[],kwarg:=none,defaults:=[] }
def Yc (s:aK):List aK:=match s with
 | .FunctionDef _ _ b _ _ _ _ _ _ _=>b
 | _=>[]
def Q7 (s:aK):Scope:=match s with
 | .FunctionDef _ _ _ _ _ _ sc _ _ _=>sc
 | _=>{ kind:=.function,names:=[],isGenerator:=false,isCoroutine:=false }
abbrev CX0:CXT:=fun _ _ _ _ _ _=>False
abbrev E0:XK:=fun _ _ _=>False
structure Fun (K:PySem.W.Frag) (x qual:Str) (st:aK) (f:aA) (fd:aP):Prop where
 ex:∃ (oc:aB) (od:Option aA) (kV doc pm:aB) (an:Option aA) (cdv ct:aB) (osl:Array (Option aB)),
  fd=PySem.W.fnOf x qual (Wi st) (Yc st) (Q7 st) .none kV doc pm an cdv ct/\K.lookup f=some ⟨oc,od,.func fd,osl⟩/\PySem.W.codeIn K cdv qual=true
 kp:PySem.W.keepIn K (.ref f)=true
variable {P:aN} {K:PySem.W.Frag} {mg:Str->Option aB} {base:Heap}
section
variable {w:aL}
theorem Fun.ok {x qual:Str} {N:List Str} {k:Nat} (F:Fun K x qual st f fd) (S:FnScope N ps (Q7 st)) (len:∀ vs H Q E,sp vs H Q E->vs.length=ps.length)
  (G:∀ (B:aB) (A:aQ) (outer:List Env) (s:aC) (H:Hp) (vs:List V) (Q:VK) (E:XK),Room k (A.deeper (envOfC qual (Q7 st) s.heap.objs.size f B))->sp vs H Q E ->
   ∃ t,PSs (Qd3 CX0 P w K mg base N qual (Q7 st) f B A outer s H E).nox (Yc st) t/\t { nx:=fun _ H'=>Q .non H',rt:=Q } (start N vs) H):FnOk P w K mg base CX0 (k + 1) f fd ps sp:=by
 obtain ⟨oc,od,kV,O,Z,an,B,ct,U,rfl,lk,J⟩:=F.ex;refine Qqy lk J S len fun A outer s H vs Q E Y I=>?_
 obtain ⟨t,h,q⟩:=G B A outer s H vs Q E Y I;exact ⟨t,h.nox,q⟩
theorem Fun.binds {x qual:Str} {ps:List Str} (F:Fun K x qual st f fd)
  (h:∀ (kV B G:aB) (an:Option aA) (q ct:aB) (us:List aB),us.length=ps.length->bindArgs (PySem.W.fnOf x qual (Wi st) (Yc st) (Q7 st) .none kV B G an q ct) ⟨us,[]⟩=pure (ps.zip us)):Binds K fd ps []:=by
 obtain ⟨oc,O,kV,B,G,an,q,ct,I,rfl,lk,J⟩:=F.ex;exact .all (h kV B G an q ct)
theorem Qcz {x qual:Str} {oc:aB} {J an:Option aA} {G:Array (Option aB)} {kV B I q ct:aB} (l:K.lookup f=some ⟨oc,J,.func (PySem.W.fnOf x qual (Wi st) (Yc st) (Q7 st) .none kV B I an q ct),G⟩)
  (c:PySem.W.codeIn K q qual=true) (k:PySem.W.keepIn K (.ref f)=true):Fun K x qual st f (PySem.W.fnOf x qual (Wi st) (Yc st) (Q7 st) .none kV B I an q ct):=⟨⟨oc,J,kV,B,I,an,q,ct,G,rfl,l,c⟩,k⟩
end
theorem Yy (h:n<=1000):n < sizeLine:=Nat.lt_of_le_of_lt h (by decide)
variable {X:Cx}
theorem pv (i:Nat) {x:Str} {pos:Pos} (G:X.N[i]?=some x:=by rfl) (B:Vis X.env.scope x:=by first | exact Or.inl rfl | exact Or.inr (Or.inl rfl) | exact Or.inr (Or.inr rfl)) (hd:(x == ("__debug__" : Str))=false:=by decide)
  (q:(x == ("__classdict__" : Str))=false:=by decide):PE X (.Name x pos) (Qre i):=Qih G B hd q
theorem Q16 {A B:Prop} (h:B):if false=true then A else B:=by
 rw [bO D2];exact h
theorem Qze {A B:Prop} (h:A):if true=true then A else B:=by
 rw [bN rfl];exact h
def Same (H H':Hp):Prop:=∀ b o,H b=some o->H' b=some o
theorem Same.refl (H:Hp):Same H H:=fun _ _ h=>h
theorem Qd4 {scope:Scope} {env:Env} (h:∀ x∈scope.names,x.2=.free->∃ c,env.cells.lookup x.1=some c) :
  ∃ cl,closureFor scope env=pure cl/\(∀ x c,cl.lookup x=some c->env.cells.lookup x=some c)/\(∀ x∈scope.names,x.2=.free->∃ c,cl.lookup x.1=some c):=by
 have Z:∀ (l:List (Str × ao)) (q:List (Str × aA)),(∀ x∈l,x.2=.free->∃ c,env.cells.lookup x.1=some c)->(∀ x c,q.lookup x=some c->env.cells.lookup x=some c) ->
   ∃ cl,(forIn l q fun (x:Str × ao) (r:List (Str × aA))=>(match x with
    | (name,kind)=>if (kind == NameKind.free)=true then (do let c <- cellOf env name; pure (ForInStep.yield ((name,c) :: r))) else (do pure PUnit.unit; pure (ForInStep.yield r)):Sem (ForInStep (List (Str × aA)))))=pure cl /\
    (∀ x c,cl.lookup x=some c->env.cells.lookup x=some c)/\(∀ x∈l,x.2=.free->∃ c,cl.lookup x.1=some c)/\(∀ x c,q.lookup x=some c->∃ G,cl.lookup x=some G):=by
  intro l
  induction l with
  | nil=>intro q _ U; exact ⟨q,rfl,U,fun x O=>(by simp at O),fun x c e=>⟨c,e⟩⟩
  | cons x r ih=>
   intro q hl U;obtain ⟨n,k⟩:=x
   by_cases hk:k=.free
   ·subst hk;obtain ⟨c,hc⟩:=hl (n,.free) D5 rfl;have a2:∀ x G,((n,c) :: q).lookup x=some G->env.cells.lookup x=some G:=fun x G e=>by
     rw [E2] at e
     by_cases O:x=n
     ·subst O; simp at e; rw [<- e]; exact hc
     ·have:(x == n)=false:=by simpa using O
      rw [this] at e; exact U x G e
    obtain ⟨cl,e1,e2,e3,J⟩:=ih ((n,c) :: q) (fun y B=>hl y (D1 _ B)) a2
    refine ⟨cl,?_,e2,fun y B Y=>?_,fun y G e=>?_⟩
    ·rw [List.forIn_cons];have I:cellOf env n=pure c:=by unfold cellOf; rw [hc]
     simp only [beq_self_eq_true,if_true,I];exact e1
    ·rcases D4.mp B with e | B
     ·subst e;exact J n c (by simp)
     ·exact e3 y B Y
    ·by_cases B:y=n
     ·subst B; exact J y c (by simp)
     ·have:(y == n)=false:=by simpa using B
      exact J y G (by rw [E2,this]; exact e)
   ·obtain ⟨cl,e1,e2,e3,J⟩:=ih q (fun y B=>hl y (D1 _ B)) U
    refine ⟨cl,?_,e2,fun y B Y=>?_,J⟩
    ·rw [List.forIn_cons];have:(k == NameKind.free)=false:=by simpa using hk
     simp only [this,Bool.false_eq_true,if_false];exact e1
    ·rcases D4.mp B with e | B
     ·subst e; exact absurd Y hk
     ·exact e3 y B Y
 obtain ⟨cl,e1,e2,e3,_⟩:=Z scope.names [] h (fun x c e=>by simp at e);refine ⟨cl,?_,e2,e3⟩;unfold closureFor;exact (congrArg (fun z=>z >>= pure) e1).trans rfl
theorem Q2d (f:Str->ao->ao) (x:Str):∀ l:List (Str × ao),(l.map fun y=>(y.1,f y.1 y.2)).lookup x=(l.lookup x).map (f x)
 | []=>rfl
 | (n,k) :: r=>by
  have G:=Q2d f x r;rw [F2,E2,E2]
  by_cases q:x=n
  ·subst q; simp
  ·have B:(x == n)=false:=by simpa using q
   rw [B]; exact G
theorem Q09 {scope:Scope} {env:Env} {x:Str}:(relabel scope env).names.lookup x =
  (scope.names.lookup x).map fun k=>if (k == .free && env.scope.kind == .function && env.kindOf x == some .cell) then .cell else k:=by
 rw [<- Q2d (fun n k=>if (k == .free && env.scope.kind == .function && env.kindOf n == some .cell) then .cell else k)]
 unfold relabel;refine congrArg (List.lookup x) (List.map_congr_left fun y _=>?_);obtain ⟨n,k⟩:=y;show (if (k == NameKind.free && env.scope.kind == .function && env.kindOf n == some .cell)=true then (n,NameKind.cell) else (n,k))=_
 split <;> rfl
def Q2i (cap:List (Option Nat)) (σ:St):St:=cap.map fun c=>c.bind fun j=>(σ[j]?).join
theorem HOk.same {w:aL} {H:Hp} {h:Heap} (ok:HOk P w H h) (G:H a=none) (hs:Heap.SameBut a h h'):HOk P w H h':=fun b ob e=>by
 refine (ok b ob e).stay (fun c I B q=>(hs.2 c ?_).trans q) (fun _ q=>q) fun _ _ q=>q
 rintro rfl;rcases B with rfl | B
 ·rw [G] at e; cases e
 ·rw [G] at B; cases B
def HasItems (t:Bool) (h:Heap) (a:aA) (items:Array aB):Prop:=if t=true then h.IsTuple a items else h.IsList a items
def IterAt (t:Bool) (h:Heap) (it a:aA) (i:Nat):Prop:=if t=true then h.IsTupleIter it a i else h.IsListIter it a i
theorem HasItems.at {t:Bool} {h:Heap} {q:Array aB} (x:HasItems t h a q) (k:∀ o,h.get? a=some o->h'.get? a=some o):HasItems t h' a q:=by
 cases t
 ·exact Heap.IsList.at x k
 ·obtain ⟨o,e,r⟩:=x;exact ⟨o,k o e,r⟩
theorem HasItems.there {t:Bool} {h:Heap} {q:Array aB} (x:HasItems t h a q):∃ o,h.get? a=some o:=by
 cases t
 ·obtain ⟨o,e,_⟩:=x; exact ⟨o,e⟩
 ·obtain ⟨o,e,_⟩:=x; exact ⟨o,e⟩
theorem IterAt.at {t:Bool} {h:Heap} {i:Nat} (x:IterAt t h it a i) (k:∀ o,h.get? it=some o->h'.get? it=some o):IterAt t h' it a i:=by
 cases t
 ·exact Heap.IsListIter.at x k
 ·obtain ⟨o,e,r⟩:=x;exact ⟨o,k o e,r⟩
theorem IterAt.there {t:Bool} {h:Heap} {i:Nat} (x:IterAt t h it a i):∃ o,h.get? it=some o/\∀ v,o.data≠.cell v:=by
 cases t
 ·obtain ⟨o,e,_,d⟩:=x; exact ⟨o,e,fun v z=>by rw [d] at z; cases z⟩
 ·obtain ⟨o,e,_,d⟩:=x; exact ⟨o,e,fun v z=>by rw [d] at z; cases z⟩
variable {prog:aN} {A:aQ} {E:aB->aC->Prop} {s:aC}
section
variable {w:aL}
theorem Q28 {i:Nat} {items} {x:aB} {Q:aB->aC->Prop} (q:s.heap.IsTupleIter it l i)
  (hl:s.heap.IsTuple l items) (O:items[i]?=some x)
  (U:∀ h',h'.IsTupleIter it l (i + 1)->Heap.SameBut it s.heap h'->Q x { s with heap:=h' }) :
  aI (aJ prog w) A (Builtin.SmallTypes.nextOf (.ref it)) Q E s:=by
 obtain ⟨o,B,J,hd⟩:=id q;obtain ⟨Y,G,_,nl,I⟩:=hl;unfold Builtin.SmallTypes.nextOf;refine aF (wpAny_callSpecial?_slot (name:=Str.ofString "__next__") q.typeIs F.slot_tuple_iterator_next
  (bH F.slot_tuple_iterator_next q.typeIs F.entry_tuple_iterator_next ?_ (F.args_tuple_iterator_next_1 _)))
 show aI _ _ (field (.ref it) 0 >>= _) _ _ s;refine aF (aY B hd (x:=.ref l) rfl ?_);show aI _ _ (if (Value.ref l == Value.none)=true then _ else _) _ _ s;rw [bO (show ¬ ((Value.ref l == Value.none)=true) from D2)];show aI _ _ (field (.ref it) 1 >>= _) _ _ s;refine aF (aY B hd (x:=.int i 0) rfl ?_);show aI _ _ (seqItems? (.ref l) >>= _) _ _ s;refine aF (bA G I ?_);simp only [Int.toNat_natCast,O];refine aF (wpAny_setField B hd (by simp) (aR ⟨x,rfl,aR (U _ ?_ (Heap.SameBut.update ..))⟩));exact ⟨_,G8 _ B (Obj.isFreed_of_fields (Obj.data_mapFields hd _)),(Obj.cls_mapFields ..).trans J,by
  rw [Obj.data_mapFields hd]; simp [af]⟩
theorem Q33 {it l:aA} {i:Nat} {items} {Q:aB->aC->Prop} (J:A.handled=none)
  (q:s.heap.IsTupleIter it l i) (hl:s.heap.IsTuple l items) (U:items[i]?=none)
  (O:∀ h' e,Heap.ExtBut it s.heap h'->(∃ o,h'.get? e=some o/\o.cls=.type "StopIteration")->E (.ref e) { s with heap:=h' }) :
  aI (aJ prog w) A (Builtin.SmallTypes.nextOf (.ref it)) Q E s:=by
 obtain ⟨o,B,Z,hd⟩:=id q;obtain ⟨Y,G,_,nl,I⟩:=hl;unfold Builtin.SmallTypes.nextOf;refine aF (wpAny_callSpecial?_slot (name:=Str.ofString "__next__") q.typeIs F.slot_tuple_iterator_next
  (bH F.slot_tuple_iterator_next q.typeIs F.entry_tuple_iterator_next ?_ (F.args_tuple_iterator_next_1 _)))
 show aI _ _ (field (.ref it) 0 >>= _) _ _ s;refine aF (aY B hd (x:=.ref l) rfl ?_);show aI _ _ (if (Value.ref l == Value.none)=true then _ else _) _ _ s;rw [bO (show ¬ ((Value.ref l == Value.none)=true) from D2)];show aI _ _ (field (.ref it) 1 >>= _) _ _ s;refine aF (aY B hd (x:=.int i 0) rfl ?_);show aI _ _ (seqItems? (.ref l) >>= _) _ _ s;refine aF (bA G I ?_);simp only [Int.toNat_natCast,U];refine aF (bK (aF (wpAny_setField B hd (by simp) ?_)));show aI _ _ (newExc (.type "StopIteration") [] >>= _) _ _ _;refine aF ?_;simp only [newExc,newTuple];refine aF (ay ?_ (by size_fits));refine aF (m:=firstArgMember _ _) (wpAny_of_eq (a:=Value.none) (by first | rfl | (simp only [firstArgMember]; rfl)) ?_);refine ay ?_ (by size_fits);simp only [raiseNew]
 refine aF (wpAny_handled ?_)
 first | rw [show A.in1.handled=none from J] | rw [J]
 refine aF (aR (wpAny_throw ?_));exact O _ _ (((Heap.SameBut.update ..).extBut.push _).push _) ⟨_,D8 _ rfl,rfl⟩
theorem Q0c {t:Bool} {i:Nat} {q:Array aB} {x:aB} {Q:aB->aC->Prop} (B:IterAt t s.heap it l i)
  (hl:HasItems t s.heap l q) (G:q[i]?=some x)
  (I:∀ h',IterAt t h' it l (i + 1)->Heap.SameBut it s.heap h'->Q x { s with heap:=h' }) :
  aI (aJ prog w) A (Builtin.SmallTypes.nextOf (.ref it)) Q E s:=by
 cases t
 ·exact wpAny_nextOf_list_item B hl G I
 ·exact Q28 B hl G I
theorem Q5s {t:Bool} {it l:aA} {i:Nat} {q:Array aB} {Q:aB->aC->Prop} (J:A.handled=none)
  (B:IterAt t s.heap it l i) (hl:HasItems t s.heap l q) (I:q[i]?=none)
  (G:∀ h' e,Heap.ExtBut it s.heap h'->(∃ o,h'.get? e=some o/\o.cls=.type "StopIteration")->E (.ref e) { s with heap:=h' }) :
  aI (aJ prog w) A (Builtin.SmallTypes.nextOf (.ref it)) Q E s:=by
 cases t
 ·exact wpAny_nextOf_list_end J B hl I G
 ·exact Q33 J B hl I G
def X1 (t:Bool) (l:aA):Obj:=if t=true then { cls:=.type "tuple_iterator",data:=.fields #[.ref l,.int 0 0] } else { cls:=.type "list_iterator",data:=.fields #[.ref l,.int 0 0] }
theorem Ug {t:Bool} {q:Array aB} {Q:aB->aC->Prop} (hl:HasItems t s.heap l q)
  (B:Q (.ref s.heap.objs.size) { s with heap:=s.heap.push (X1 t l) }):aI (aJ prog w) A (pyIter (.ref l)) Q E s:=by
 cases t
 ·exact wpAny_pyIter_list hl B
 ·exact bL hl B
theorem Q1r {t:Bool} {h:Heap} (e:h.get? it=some (X1 t l)):IterAt t h it l 0:=by
 cases t
 ·exact ⟨_,e,rfl,rfl⟩
 ·exact ⟨_,e,rfl,rfl⟩
theorem xj (t:Bool) (l:aA):(X1 t l).isFreed=false:=by cases t <;> rfl
theorem Qer {t1 t2:Bool} {TI TO:aA} {k1 k2:Nat} {xs ys:Array aB} {x y a b:aB} {Q:aB->aC->Prop} (D:ZipApart z TI TO i1 i2 l1 l2)
  (hz:IsZip s.heap z TI TO .none) (d0:aX s.heap TI (.ref i1) (.ref i2)) (d1:aX s.heap TO a b)
  (h1:IterAt t1 s.heap i1 l1 k1) (h2:IterAt t2 s.heap i2 l2 k2) (c9:HasItems t1 s.heap l1 xs) (d2:HasItems t2 s.heap l2 ys) (hx:xs[k1]?=some x) (hy:ys[k2]?=some y)
  (hQ:∀ h',IsZip h' z TI TO (af s.heap.objs.size)->aX h' TO x y->IterAt t1 h' i1 l1 (k1 + 1)->IterAt t2 h' i2 l2 (k2 + 1)->aX h' s.heap.objs.size x y->h'.objs.size=s.heap.objs.size + 1 ->
   (∀ c o,c≠z->c≠TO->c≠i1->c≠i2->s.heap.get? c=some o->h'.get? c=some o)->Q (.ref s.heap.objs.size) { s with heap:=h' }) :
  aI (aJ prog w) A (Builtin.«zip.__next__» ⟨[.ref z],[]⟩) (fun fin s'=>∃ v,fin=.done (.ret v)/\Q v s') E s:=by
 show aI _ _ (field (.ref z) 2 >>= _) _ _ _;refine aF (aY hz rfl (x:=.bool false) rfl ?_);show aI _ _ (field (.ref z) 3 >>= _) _ _ _;refine aF (aY hz rfl (x:=.ref TI) rfl ?_);refine aF (bA d0 rfl ?_);show aI _ _ (Builtin.SmallTypes.ownedTupleIsFree (.ref z) >>= _) _ _ _;refine aF ?_;unfold Builtin.SmallTypes.ownedTupleIsFree;refine aF (aY hz rfl (x:=.none) rfl (aR ?_));simp only [if_true];refine aF (bK ?_);refine aF (aY hz rfl (x:=.ref TO) rfl ?_);refine aF (bI hz (by simp) fun c0 a5 B=>?_)
 replace a5:IsZip c0 z TI TO .ellipsis:=a5;refine aF ?_;simp only [List.zipIdx_cons,List.zipIdx_nil,List.forIn_cons,List.forIn_nil];refine aF (aF (wpAny_onRaise ?_));show aI _ _ (Builtin.SmallTypes.nextOf (.ref i1) >>= _) _ _ _;refine aF (Q0c (h1.at fun o e=>B.extBut _ _ D.i1z e) (c9.at fun o e=>B.extBut _ _ D.l1z e) hx fun c8 b7 I=>aR ?_)
 have a8:aX c8 TO a b:=I.extBut _ _ D.TOi1 (B.extBut _ _ D.TOz d1);refine aF (bA a8 rfl ?_);refine aF (wpAny_updateSeq_pair a8 fun c5 Y G=>?_);replace Y:aX c5 TO x b:=Y;refine aF (wpAny_letGo (aR ?_));refine aF (aF (wpAny_onRaise ?_));show aI _ _ (Builtin.SmallTypes.nextOf (.ref i2) >>= _) _ _ _;refine aF (Q0c (h2.at fun o e=>G.extBut _ _ D.TOi2.symm (I.extBut _ _ D.i12.symm (B.extBut _ _ D.i2z e)))
  (d2.at fun o e=>G.extBut _ _ D.l2TO (I.extBut _ _ D.l2i1 (B.extBut _ _ D.l2z e))) hy fun b8 b5 O=>aR ?_)
 have a7:aX b8 TO x b:=O.extBut _ _ D.TOi2 Y;refine aF (bA a7 rfl ?_);refine aF (wpAny_updateSeq_pair a7 fun q J U=>?_);replace J:aX q TO x y:=J;refine aF (wpAny_letGo (aR (aR ?_)));refine aF (bA J rfl ?_);refine aF (wpAny_newTuple ?_);have b9:q.objs.size=s.heap.objs.size:=by rw [U.1,O.1,G.1,I.1,B.1]
 have a9:IsZip q z TI TO .ellipsis:=U.extBut _ _ D.TOz.symm (O.extBut _ _ D.i2z.symm (G.extBut _ _ D.TOz.symm (I.extBut _ _ D.i1z.symm a5)));have b6:∀ c o,c≠z->c≠TO->c≠i1->c≠i2->s.heap.get? c=some o->q.get? c=some o:=fun c o c1 c2 c3 c4 e=>
  U.extBut _ _ c2 (O.extBut _ _ c4 (G.extBut _ _ c2 (I.extBut _ _ c3 (B.extBut _ _ c1 e))))
 have b3:IterAt t1 q i1 l1 (k1 + 1):=b7.at fun o e=>U.extBut _ _ D.TOi1.symm (O.extBut _ _ D.i12 (G.extBut _ _ D.TOi1.symm e))
 have b4:IterAt t2 q i2 l2 (k2 + 1):=b5.at fun o e=>U.extBut _ _ D.TOi2.symm e
 have b1:z < q.objs.size:=O9 a9;show aI _ _ (Builtin.SmallTypes.ownedTupleHandOut (.ref z) (.ref q.objs.size) >>= _) _ _ _;refine aF ?_;unfold Builtin.SmallTypes.ownedTupleHandOut;have b2:IsZip (q.push { cls:=.type "tuple",data:=.seq #[x,y] }) z TI TO .ellipsis:=O1 _ a9;refine aF (bI b2 (by simp) fun c7 a6 a4=>?_)
 replace a6:IsZip c7 z TI TO (af q.objs.size):=a6;refine bI a6 (by simp) fun a2 Z a3=>?_
 replace Z:IsZip a2 z TI TO (af q.objs.size):=Z;have up:∀ c o,c≠z->q.get? c=some o->a2.get? c=some o:=fun c o c1 e=>a3.extBut _ _ c1 (a4.extBut _ _ c1 (O1 _ e))
 have b0:aX a2 q.objs.size x y:=a3.extBut _ _ (Nat.ne_of_gt b1) (a4.extBut _ _ (Nat.ne_of_gt b1) (D8 _ rfl));have c6:a2.objs.size=q.objs.size + 1:=by rw [a3.1,a4.1,F4]
 rw [b9] at Z b0 c6;refine aR ⟨_,rfl,?_⟩;show Q (.ref q.objs.size) _;rw [b9];exact hQ a2 Z (up _ _ D.TOz J) (b3.at fun o e=>up _ o D.i1z e) (b4.at fun o e=>up _ o D.i2z e) b0 c6 fun c o c1 c2 c3 c4 e=>up c o c1 (b6 c o c1 c2 c3 c4 e)
theorem Qh2 {t1 t2:Bool} {TI TO:aA} {k1 k2:Nat} {xs ys:Array aB} {a b:aB} {Q:Fin->aC->Prop} (hh:A.handled=none) (D:ZipApart z TI TO i1 i2 l1 l2)
  (hz:IsZip s.heap z TI TO .none) (b3:aX s.heap TI (.ref i1) (.ref i2)) (b4:aX s.heap TO a b)
  (h1:IterAt t1 s.heap i1 l1 k1) (h2:IterAt t2 s.heap i2 l2 k2) (a8:HasItems t1 s.heap l1 xs) (b5:HasItems t2 s.heap l2 ys) (a9:xs[k1]?=none\/ys[k2]?=none)
  (hE:∀ h' e,(∀ c o,c≠z->c≠TO->c≠i1->c≠i2->s.heap.get? c=some o->h'.get? c=some o)->(∃ o,h'.get? e=some o/\o.cls=.type "StopIteration")->E (.ref e) { s with heap:=h' }) :
  aI (aJ prog w) A (Builtin.«zip.__next__» ⟨[.ref z],[]⟩) Q E s:=by
 show aI _ _ (field (.ref z) 2 >>= _) _ _ _;refine aF (aY hz rfl (x:=.bool false) rfl ?_);show aI _ _ (field (.ref z) 3 >>= _) _ _ _;refine aF (aY hz rfl (x:=.ref TI) rfl ?_);refine aF (bA b3 rfl ?_);show aI _ _ (Builtin.SmallTypes.ownedTupleIsFree (.ref z) >>= _) _ _ _;refine aF ?_;unfold Builtin.SmallTypes.ownedTupleIsFree;refine aF (aY hz rfl (x:=.none) rfl (aR ?_));simp only [if_true];refine aF (bK ?_);refine aF (aY hz rfl (x:=.ref TO) rfl ?_);refine aF (bI hz (by simp) fun b0 I q=>?_)
 replace I:IsZip b0 z TI TO .ellipsis:=I;refine aF ?_;simp only [List.zipIdx_cons,List.zipIdx_nil,List.forIn_cons,List.forIn_nil];refine aF (aF (wpAny_onRaise ?_));show aI _ _ (Builtin.SmallTypes.nextOf (.ref i1) >>= _) _ _ _;cases hx:xs[k1]? with
 | none=>
  refine aF (Q5s hh (h1.at fun o e=>q.extBut _ _ D.i1z e) (a8.at fun o e=>q.extBut _ _ D.l1z e) hx fun a4 e B he=>?_)
  obtain ⟨oe,J,a2⟩:=he;have Y:IsZip a4 z TI TO .ellipsis:=B _ _ D.i1z.symm I;have a6:e≠z:=fun x=>by subst x; rw [Y] at J; cases J; simp at a2
  refine bI Y (by simp) fun a5 _ G=>hE a5 e (fun c o c1 _ c3 _ x=>G.extBut _ _ c1 (B _ _ c3 (q.extBut _ _ c1 x))) ⟨oe,G.extBut _ _ a6 J,a2⟩
 | some x=>
  have hy:ys[k2]?=none:=by rcases a9 with h | h; rw [hx] at h; cases h; exact h
  refine aF (Q0c (h1.at fun o e=>q.extBut _ _ D.i1z e) (a8.at fun o e=>q.extBut _ _ D.l1z e) hx fun a4 b6 B=>aR ?_)
  have O:aX a4 TO a b:=B.extBut _ _ D.TOi1 (q.extBut _ _ D.TOz b4);refine aF (bA O rfl ?_);refine aF (wpAny_updateSeq_pair O fun a5 b2 G=>?_);refine aF (wpAny_letGo (aR ?_));refine aF (aF (wpAny_onRaise ?_));show aI _ _ (Builtin.SmallTypes.nextOf (.ref i2) >>= _) _ _ _;refine aF (Q5s hh (h2.at fun o e=>G.extBut _ _ D.TOi2.symm (B.extBut _ _ D.i12.symm (q.extBut _ _ D.i2z e)))
   (b5.at fun o e=>G.extBut _ _ D.l2TO (B.extBut _ _ D.l2i1 (q.extBut _ _ D.l2z e))) hy fun a7 e Z he=>?_)
  obtain ⟨oe,J,a2⟩:=he;have U:IsZip a7 z TI TO .ellipsis:=Z _ _ D.i2z.symm (G.extBut _ _ D.TOz.symm (B.extBut _ _ D.i1z.symm I));have a6:e≠z:=fun x=>by subst x; rw [U] at J; cases J; simp at a2
  refine bI U (by simp) fun b1 _ a3=>hE b1 e (fun c o c1 c2 c3 c4 x=>a3.extBut _ _ c1 (Z _ _ c4 (G.extBut _ _ c2 (B.extBut _ _ c3 (q.extBut _ _ c1 x))))) ⟨oe,a3.extBut _ _ a6 J,a2⟩
theorem Q5r {t1 t2:Bool} {TI TO:aA} {k1 k2:Nat} {xs ys:Array aB} {x y a b:aB} {Q:Option aB->aC->Prop} (D:ZipApart z TI TO i1 i2 l1 l2)
  (hz:IsZip s.heap z TI TO .none) (I:aX s.heap TI (.ref i1) (.ref i2)) (B:aX s.heap TO a b)
  (h1:IterAt t1 s.heap i1 l1 k1) (h2:IterAt t2 s.heap i2 l2 k2) (G:HasItems t1 s.heap l1 xs) (q:HasItems t2 s.heap l2 ys) (Z:xs[k1]?=some x) (hy:ys[k2]?=some y)
  (hQ:∀ h',IsZip h' z TI TO (af s.heap.objs.size)->aX h' TO x y->IterAt t1 h' i1 l1 (k1 + 1)->IterAt t2 h' i2 l2 (k2 + 1)->aX h' s.heap.objs.size x y->h'.objs.size=s.heap.objs.size + 1 ->
   (∀ c o,c≠z->c≠TO->c≠i1->c≠i2->s.heap.get? c=some o->h'.get? c=some o)->Q (some (.ref s.heap.objs.size)) { s with heap:=h' }) :
  aI (aJ prog w) A (bC (.ref z)) Q E s:=by
 have J:s.TypeIs (.ref z) "zip" := ⟨_,hz,rfl⟩;unfold bC;exact aF (wpAny_attempt (wpAny_callSpecial?_slot (name:=Str.ofString "__next__") J F.slot_zip_next
  (bH F.slot_zip_next J F.entry_zip_next
   (Qer D hz I B h1 h2 G q Z hy fun h' a1 O U a4 Y a6 a7=>aR (hQ h' a1 O U a4 Y a6 a7)) (F.args_zip_next_1 _))))
theorem Q7h {t1 t2:Bool} {TI TO:aA} {k1 k2:Nat} {xs ys:Array aB} {a b:aB} {Q:Option aB->aC->Prop} (hh:A.handled=none) (D:ZipApart z TI TO i1 i2 l1 l2)
  (hz:IsZip s.heap z TI TO .none) (J:aX s.heap TI (.ref i1) (.ref i2)) (G:aX s.heap TO a b)
  (h1:IterAt t1 s.heap i1 l1 k1) (h2:IterAt t2 s.heap i2 l2 k2) (I:HasItems t1 s.heap l1 xs) (B:HasItems t2 s.heap l2 ys) (q:xs[k1]?=none\/ys[k2]?=none)
  (hQ:∀ h',(∀ c o,c≠z->c≠TO->c≠i1->c≠i2->s.heap.get? c=some o->h'.get? c=some o)->Q none { s with heap:=h' }):aI (aJ prog w) A (bC (.ref z)) Q E s:=by
 have O:s.TypeIs (.ref z) "zip" := ⟨_,hz,rfl⟩;unfold bC;refine aF (wpAny_attempt (wpAny_callSpecial?_slot (name:=Str.ofString "__next__") O F.slot_zip_next
  (bH F.slot_zip_next O F.entry_zip_next (Qh2 hh D hz J G h1 h2 I B q fun h' e hk U=>?_) (F.args_zip_next_1 _))))
 obtain ⟨o,Y,Z⟩:=U;refine aF (wpAny_isInstance (T := "StopIteration") (b:=true) ⟨o,Y,Z⟩ isSubtype_stop ?_);exact aR (hQ _ hk)
end
def zH1 (t1:Bool) (h:Heap) (l1:aA):Heap:=h.push (X1 t1 l1)
def zH2 (t1 t2:Bool) (h:Heap) (l1 l2:aA):Heap:=(zH1 t1 h l1).push (X1 t2 l2)
def zH3 (t1 t2:Bool) (h:Heap) (l1 l2:aA):Heap:=(zH2 t1 t2 h l1 l2).push { cls:=.type "tuple",data:=.seq #[.ref h.objs.size,.ref (zH1 t1 h l1).objs.size] }
def zH4 (t1 t2:Bool) (h:Heap) (l1 l2:aA):Heap:=(zH3 t1 t2 h l1 l2).push { cls:=.type "tuple",data:=.seq #[.none,.none] }
def zH5 (t1 t2:Bool) (h:Heap) (l1 l2:aA):Heap:=(zH4 t1 t2 h l1 l2).push { cls:=.type "zip",data:=.fields #[.none,.bool false,.bool false,.ref (zH2 t1 t2 h l1 l2).objs.size,.ref (zH3 t1 t2 h l1 l2).objs.size] }
theorem Q5t (t1 t2:Bool) (l1 l2:aA) (xs ys:Array aB) :
  Meets (Builtin.«zip.__new__» ⟨[.type "zip",.ref l1,.ref l2],[]⟩) (fun _ R s=>HasItems t1 s.heap l1 xs/\HasItems t2 s.heap l2 ys /\
   R (.ok (.ret (.ref (zH4 t1 t2 s.heap l1 l2).objs.size))) { s with heap:=zH5 t1 t2 s.heap l1 l2 }):=
 .of_wp fun prog w A R s h=>by
  obtain ⟨hp,g,d,tk,os⟩:=s; obtain ⟨I,B,h⟩:=h;have J:=sub_zip;have q:HasItems t1 (Shared.heap ⟨hp,g,d,tk,os⟩) l1 xs:=I;have G:HasItems t2 (Shared.heap ⟨hp.push (X1 t1 l1),g,d,tk,os⟩) l2 ys:=B.at fun o e=>O1 _ e
  wp_walk using Ug q,Ug G
  exact ⟨_,rfl,h⟩
section
variable {w:aL}
theorem Qgh {xs ys:Array aB} {Q:aB->aC->Prop} (U:HasItems t1 s.heap l1 xs) (I:HasItems t2 s.heap l2 ys)
  (h:∀ h',IsZip h' (s.heap.objs.size + 4) (s.heap.objs.size + 2) (s.heap.objs.size + 3) .none->aX h' (s.heap.objs.size + 2) (.ref s.heap.objs.size) (.ref (s.heap.objs.size + 1)) ->
   aX h' (s.heap.objs.size + 3) .none .none->IterAt t1 h' s.heap.objs.size l1 0->IterAt t2 h' (s.heap.objs.size + 1) l2 0->h'.objs.size=s.heap.objs.size + 5 ->
   (∀ c o,s.heap.get? c=some o->h'.get? c=some o)->Q (.ref (s.heap.objs.size + 4)) { s with heap:=h' }) :
  aI (aJ prog w) A (call (.type "zip") [.ref l1,.ref l2]) Q E s:=by
 refine callType_new F.called_zip (by decide) (F.typeCall_zip_2 _ _) (F.newCall_zip_2 _ _) (fun obj=>F.args_object_init_3 obj _ _) F.entry_zip_new
  (Q5t t1 t2 l1 l2 xs ys) ⟨U,I,?_⟩
 have O:(zH1 t1 s.heap l1).objs.size=s.heap.objs.size + 1:=F4 ..;have G:(zH2 t1 t2 s.heap l1 l2).objs.size=s.heap.objs.size + 2:=by unfold zH2; rw [F4,O]
 have q:(zH3 t1 t2 s.heap l1 l2).objs.size=s.heap.objs.size + 3:=by unfold zH3; rw [F4,G]
 have B:(zH4 t1 t2 s.heap l1 l2).objs.size=s.heap.objs.size + 4:=by unfold zH4; rw [F4,q]
 have z5:(zH5 t1 t2 s.heap l1 l2).objs.size=s.heap.objs.size + 5:=by unfold zH5; rw [F4,B]
 have J:(zH5 t1 t2 s.heap l1 l2).get? (zH4 t1 t2 s.heap l1 l2).objs.size=some { cls:=.type "zip",data:=.fields #[.none,.bool false,.bool false,.ref (zH2 t1 t2 s.heap l1 l2).objs.size,.ref (zH3 t1 t2 s.heap l1 l2).objs.size] }:=D8 _ rfl;have Y:(zH5 t1 t2 s.heap l1 l2).get? (zH3 t1 t2 s.heap l1 l2).objs.size=some { cls:=.type "tuple",data:=.seq #[.none,.none] }:=O1 _ (D8 _ rfl);have Z:(zH5 t1 t2 s.heap l1 l2).get? (zH2 t1 t2 s.heap l1 l2).objs.size=some { cls:=.type "tuple",data:=.seq #[.ref s.heap.objs.size,.ref (zH1 t1 s.heap l1).objs.size] }:=O1 _ (O1 _ (D8 _ rfl));have g2:(zH5 t1 t2 s.heap l1 l2).get? (zH1 t1 s.heap l1).objs.size=some (X1 t2 l2):=O1 _ (O1 _ (O1 _ (D8 _ (xj _ _))));have g1:(zH5 t1 t2 s.heap l1 l2).get? s.heap.objs.size=some (X1 t1 l1):=O1 _ (O1 _ (O1 _ (O1 _ (D8 _ (xj _ _)))));show _/\_;rw [G,q,B] at J;rw [O,G] at Z;rw [q] at Y;rw [O] at g2;rw [B];exact ⟨⟨_,J,rfl⟩,h _ J Z Y (Q1r g1) (Q1r g2) z5 fun c o x=>
  O1 _ (O1 _ (O1 _ (O1 _ (O1 _ x))))⟩
end
def SqK (K:PySem.W.Frag) (t:Bool) (H:Hp) (a:aA) (xs:List V):Prop:=if t=true then SqT K H a xs else SqL K H a xs
variable {pins:List (aA × Obj)} {σ:St} {H:Hp}
theorem Inv.seqK {t:Bool} (I:Inv X pins σ H s) (h:SqK X.K t H a xs):∃ its:List aB,Vals xs its/\HasItems t s.heap a its.toArray/\xs.length<=sizeLine:=by
 cases t
 ·obtain ⟨its,r,p,z⟩:=I.list h;exact ⟨its,r,p.isList,z⟩
 ·obtain ⟨its,r,p,z⟩:=I.tuple h;exact ⟨its,r,p,z⟩
theorem Inv.seqK_inj {t:Bool} {ys:List V} (I:Inv X pins σ H s) (h:SqK X.K t H a xs) (h':SqK X.K t H a ys):xs=ys:=by
 cases t
 ·exact I.list_inj h h'
 ·exact I.tuple_inj h h'
theorem Inv.turnedL {t':Nat} {its:List aA} (I:Inv X pins σ H s) (k:∀ b o,b∉its->s.heap.get? b=some o->h'.get? b=some o) (J:∀ b∈its,Q6v X pins H b):Inv X pins σ H { s with heap:=h',toks:=t' }:=by
 have G:∀ b u,H b=some u->b∉its:=fun b u e z=>by rw [(J b z).1] at e; cases e
 refine I.step (g':=s.gens) (d':=s.drawn) (ch:=its) (fun b hb=>?_) (fun b o _ _ B e _=>k b o B e) (fun b o _ _ B e _=>⟨o.slots,k b o B e⟩) (fun _ _ _ _ n=>n)
  (fun b o B e=>⟨o,k b o B e⟩) (fun _ _ e=>e) (fun _ _ _ e=>e) (fun b ps e=>⟨#[],by rw [e]; simp⟩) (fun m hm=>?_) (fun b u e=>?_) I.bare
 ·obtain ⟨f0,O,f2,U,f4,Z⟩:=J b hb;exact ⟨U,O,f4,Z⟩
 ·obtain ⟨o,es,Y,ho,r⟩:=hm;exact ⟨o,es,Y,k _ o (fun z=>(J _ z).2.1 rfl) ho,r⟩
 ·refine (I.hok b u e).stay (fun c v B q=>k c v ?_ q) (fun _ q=>q) fun _ _ q=>q
  rcases B with z | z
  ·rw [z]; exact G b u e
  ·exact G c _ z
def Itz (K:PySem.W.Frag) (t1 t2:Bool) (a b:aA):It:=
 ⟨fun i H=>∃ xs ys x y,SqK K t1 H a xs/\SqK K t2 H b ys/\xs[i]?=some x/\ys[i]?=some y,
  fun i H v H'=>∃ p x y,H p=none/\v=.ref p/\H'=upd H p (.tup [x,y])/\∀ xs ys,SqK K t1 H a xs->SqK K t2 H b ys->xs[i]?=some x/\ys[i]?=some y,
  fun i H=>∃ xs ys,SqK K t1 H a xs/\SqK K t2 H b ys/\(xs.length<=i\/ys.length<=i)⟩
def Qv1 (t1 t2:Bool) (z TI TO i1 i2 a b:aA) (i:Nat) (h:Heap):Prop:=
 IsZip h z TI TO .none/\aX h TI (.ref i1) (.ref i2)/\(∃ u v,aX h TO u v)/\IterAt t1 h i1 a i/\IterAt t2 h i2 b i
theorem Q80 {a:aB}:∀ v,({ cls:=.type "tuple",data:=.seq #[a,b] }:Obj).data≠.cell v:=fun v z=>by cases z
theorem Qha {P:aN} {w:aL} {K:PySem.W.Frag} {b6:List aD} {k:Nat} {pos:Pos} {t1 t2:Bool} {TI TO b:aA} (D:ZipApart z TI TO i1 i2 a b) :
  Turn P w K (.Tuple b6 k pos) (Itz K t1 t2 a b) [z,TI,TO,i1,i2] z (Qv1 t1 t2 z TI TO i1 i2 a b) where
 mem:=by simp
 obj:=fun i h st c B=>by
  obtain ⟨hz,G,⟨u,v,J⟩,h1,h2⟩:=st;simp at B;rcases B with rfl | rfl | rfl | rfl | rfl
  ·exact ⟨_,hz,fun v q=>by cases q⟩
  ·exact ⟨_,G,Q80⟩
  ·exact ⟨_,J,Q80⟩
  ·exact h1.there
  ·exact h2.there
 keep:=fun i h h' st kk=>by
  obtain ⟨hz,G,⟨u,v,J⟩,h1,h2⟩:=st;exact ⟨kk z (by simp) _ hz,kk TI (by simp) _ G,⟨u,v,kk TO (by simp) _ J⟩,h1.at fun o e=>kk i1 (by simp) o e,h2.at fun o e=>kk i2 (by simp) o e⟩
 item:=by
  intro X hP hw hK B i pins s σ H E I hf st hg;subst hP hw hK;obtain ⟨xs,ys,x,y,Z,Y,hx,hy⟩:=hg;obtain ⟨hz,G,⟨u,v,J⟩,h1,h2⟩:=st;obtain ⟨its,rv,p,_⟩:=I.seqK Z;obtain ⟨b3,a8,p2,_⟩:=I.seqK Y;obtain ⟨ux,c0,c2⟩:=rv.get hx;obtain ⟨uy,c3,b8⟩:=a8.get hy;refine Q5r D hz G J h1 h2 p p2 (x:=ux) (y:=uy) (by simpa using c0) (by simpa using c3) fun h' a1 a2 a3 a4 a5 a6 a7=>⟨_,rfl,?_⟩
  refine wpAny_letOwnedTupleGo_zip (s:={ s with heap:=h' }) a1 fun b0 b1 b2=>?_
  have c4:H s.heap.objs.size=none:=I.fresh;have c1:z < s.heap.objs.size:=O9 hz;have c5:TI < s.heap.objs.size:=O9 G;have c8:TO < s.heap.objs.size:=O9 J;have c7:i1 < s.heap.objs.size:=by obtain ⟨o,e,_⟩:=h1.there; exact O9 e
  have c6:i2 < s.heap.objs.size:=by obtain ⟨o,e,_⟩:=h2.there; exact O9 e
  have U:Inv X pins σ H { s with heap:=b0 }:=I.turnedL (t':=s.toks) (its:=[z,TO,i1,i2]) (fun c o B e=>(b2.2 c (fun q=>B (by simp [q]))).trans (a7 c o (fun q=>B (by simp [q])) (fun q=>B (by simp [q])) (fun q=>B (by simp [q])) (fun q=>B (by simp [q])) e))
   fun c B=>hf c (by simp at B ⊢; rcases B with rfl | rfl | rfl | rfl <;> simp)
  have a9:aX b0 s.heap.objs.size ux uy:=(b2.2 _ (Nat.ne_of_gt c1)).trans a5;have O:H s.heap.objs.size=none:=c4;have I2:Inv X pins σ (upd H s.heap.objs.size (.tup [x,y])) { s with heap:=b0 }:=by
   refine ⟨U.ok,U.os,U.bare,?_,U.loc,U.cell,?_,?_,?_,?_,U.len⟩
   ·have u0:=U.base;have old:∀ c o,X.s₀.heap.get? c=some o->c≠s.heap.objs.size:=fun c o e=>E9 (D3 (O9 e) I.sz)
    exact ⟨u0.keep,u0.slot,fun c o e n hx=>by rw [Qb (old c o e)]; exact u0.free c o e n hx,u0.there,
     fun c ts e=>by have:=u0.tups c ts e; rw [Qb (Qe this O)]; exact this,
     fun c o ts e=>by have:=u0.frzs c o ts e; rw [Qb (Qe this O)]; exact this,
     fun c ps e=>by obtain ⟨more,q⟩:=u0.tbls c ps e; exact ⟨more,by rw [Qb (Qe q O)]; exact q⟩⟩
   ·rw [Qb (E9 I.lt)]; exact I.free
   ·intro x' c e;obtain ⟨v',q⟩:=I.cell x' c e;rw [Qb (E9 q.lt)]; exact I.freeC x' c e
   ·intro p' b7;obtain ⟨e,n,ne,nf,d⟩:=U.pin p' b7;have e0:=(I.pin p' b7).1;exact ⟨e,by rw [Qb (E9 (O9 e0))]; exact n,ne,nf,d⟩
   ·intro c o q
    by_cases b5:c=s.heap.objs.size
    ·subst b5;rw [Qj] at q; cases q;exact ⟨by simp only [D7,List.length_nil]; rw [sizeLine_eq]; decide,[ux,uy],.cons c2 (.cons b8 .nil),⟨_,a9,rfl,0,rfl⟩⟩
    ·rw [Qb b5] at q;exact (U.hok c o q).stay (fun _ _ _ r=>r) (fun c' r=>by rw [Qb (Qe r O)]; exact r) fun c' ts r=>by rw [Qb (Qe r O)]; exact r
  refine ⟨.ref s.heap.objs.size,_,I2,rfl,⟨s.heap.objs.size,x,y,O,rfl,rfl,fun c9 d0 q1 q2=>?_⟩,?_,fun c B=>?_⟩
  ·rw [I.seqK_inj q1 Z,I.seqK_inj q2 Y]; exact ⟨hx,hy⟩
  ·exact ⟨b1,b2.extBut _ _ D.TIz (a7 _ _ D.TIz D.TITO D.TIi1 D.TIi2 G),⟨_,_,b2.extBut _ _ D.TOz a2⟩,a3.at fun o e=>b2.extBut _ _ D.i1z e,a4.at fun o e=>b2.extBut _ _ D.i2z e⟩
  ·have:=(hf c B).1;have b9:c < s.heap.objs.size:=by simp at B; rcases B with rfl | rfl | rfl | rfl | rfl <;> assumption
   rw [Qb (E9 b9)]; exact this
 done:=by
  intro X hP hw hK B i pins s σ H E I hf st hg;subst hP hw hK;obtain ⟨xs,ys,Z,Y,b4⟩:=hg;obtain ⟨hz,G,⟨u,v,J⟩,h1,h2⟩:=st;obtain ⟨its,rv,p,_⟩:=I.seqK Z;obtain ⟨b3,a8,p2,_⟩:=I.seqK Y;have l1:=rv.length;have l2:=a8.length;refine Q7h (I.ok.hd B) D hz G J h1 h2 p p2 (b4.elim (fun h=>.inl (by simp; omega)) fun h=>.inr (by simp; omega)) fun h' kk=>⟨rfl,?_⟩
  exact I.turnedL (t':=s.toks) (its:=[z,TO,i1,i2]) (fun c o B e=>kk c o (fun q=>B (by simp [q])) (fun q=>B (by simp [q])) (fun q=>B (by simp [q])) (fun q=>B (by simp [q])) e)
   fun c B=>hf c (by simp at B ⊢; rcases B with rfl | rfl | rfl | rfl <;> simp)
 self:=fun _ _ _ _ _ st h=>wpAny_pyIter_zip st.1 h
def Qzf (K:PySem.W.Frag) (t1 t2:Bool) (ta:TA):TI:=fun σ H R=>ta σ H fun vs H1=>∃ a b xs ys,vs=[.ref a,.ref b]/\SqK K t1 H1 a xs/\SqK K t2 H1 b ys/\R (Itz K t1 t2 a b) H1
theorem Qke:aZ "zip" = some (.type "zip"):=by decide +kernel
theorem Qsm (t1 t2:Bool) {a b:aD} {ta:TA} {p pos:Pos} {O:List aD} {k:Nat} {tp:Pos} (hg:Gl X "zip") (hm:X.mg "zip" = none) (ha:PA X [a,b] ta) (hs:aO [a,b] X.env=[(false,aM a X.env),(false,aM b X.env)]:=by rfl) (G:aO [b] X.env=[(false,aM b X.env)]:=by rfl) :
  PI X (.Tuple O k tp) (.Call (.Name "zip" p) [a,b] [] pos) (Qzf X.K t1 t2 ta):=by
 intro pins s σ H R I h;refine Call_ (Q35 I hg hm Qke (PyProof.Rows.callWith_type1 (thn (ha pos pins s σ H _ I h) fun us s1 ⟨vs,H1,B,r1,q1⟩=>?_) (by rw [hs,G]) (by rw [G]; rfl)))
 obtain ⟨a',Y,xs,ys,e,q1,q2,q⟩:=q1;subst e;cases r1 with
 | cons r U=>
  cases U with
  | cons r' U=>
   cases U;cases r;cases r';obtain ⟨its,rv,p1,_⟩:=B.seqK q1;obtain ⟨Z,a3,p2,_⟩:=B.seqK q2;refine Qgh p1 p2 fun h' z1 z2 z3 z4 z5 z6 z7=>?_
   refine wpAny_pyIter_zip (s:={ s1 with heap:=h' }) z1 ?_;have a4:a' < s1.heap.objs.size:=by obtain ⟨o,e⟩:=p1.there; exact O9 e
   have a2:Y < s1.heap.objs.size:=by obtain ⟨o,e⟩:=p2.there; exact O9 e
   have D:ZipApart (s1.heap.objs.size + 4) (s1.heap.objs.size + 2) (s1.heap.objs.size + 3) s1.heap.objs.size (s1.heap.objs.size + 1) a' Y:=by
    constructor <;> (intro z; unfold aA at *; omega)
   refine ⟨_,[s1.heap.objs.size + 4,s1.heap.objs.size + 2,s1.heap.objs.size + 3,s1.heap.objs.size,s1.heap.objs.size + 1],_,_,H1,rfl,B.kept (t':=s1.toks) z7,Qha (t1:=t1) (t2:=t2) D,⟨z1,z2,⟨_,_,z3⟩,z4,z5⟩,fun c hc=>?_,q⟩
   have J:s1.heap.objs.size<=c:=by simp at hc; unfold aA at *; omega
   exact B.fpOk J (B.hok.fresh J)
theorem Q4s {prog:aN} {w:aL} (J:A.handled=none) (t:Bool) (I B:aA) (G:B≠I) (q:Array aB) :
  Walks prog w A I [I,B] [I] q.size (fun i v=>q[i]?=some v) (fun i h=>IterAt t h I B i/\HasItems t h B q):=by
 cases t
 ·exact Walks.list J I B G q
 ·exact Walks.tuple J I B G q
theorem Q2e {α:Type} (l:List α) (d:α) (h:n < l.length):l.getD n d=l[n]:=by simp [List.getD,h]
theorem Qag (ns:List Int):preSum (fun j=>ns.getD j 0) ns.length=ns.sum:=by
 have B:∀ (k:Nat),k<=ns.length->preSum (fun j=>ns.getD j 0) k=(ns.take k).sum:=by
  intro k
  induction k with
  | zero=>intro _; rfl
  | succ k G=>
   intro I;show preSum _ k + ns.getD k 0=_;have q:k < ns.length:=by omega
   rw [G (by omega),List.take_succ,List.sum_append,Q2e _ _ q,O5 q];simp
 rw [B ns.length (O8 _),List.take_length]
theorem Inv.movedNew {s':aC} (I:Inv X pins σ H s) {o:Obj} (m:Moved [s.heap.objs.size] (fun a b=>b=a) { s with heap:=s.heap.push o } s'):Inv X pins σ H s':=by
 obtain ⟨m1,m2,m3,m4,m5⟩:=m;obtain ⟨h',g',d',t',o'⟩:=s';have e1:g'=s.gens:=m2;have e2:d'=s.drawn:=m3;have e3:o'=s.os:=m4;subst e1 e2 e3;refine I.kept (t':=t') fun b u e=>m1 b u (fun z=>?_) (O1 _ e)
 have:b=s.heap.objs.size:=by simpa using z
 exact absurd (O9 e) (by rw [this]; exact Nat.lt_irrefl _)
theorem Q0i {its:List aB} (r:Vals (ns.map V.int) its):∀ (i:Nat) (v:aB),its.toArray[i]?=some v->∃ t,v=Value.int (ns.getD i 0) t:=fun i v e=>by
 have B:its[i]?=some v:=by simpa using e
 have hi:i < its.length:=(O0.mp B).1;have hl:=r.length;rw [O2] at hl;have G:(ns.map V.int)[i]?=some (V.int (ns.getD i 0)):=by
  have:i < ns.length:=by omega
  simp [List.getD,this]
 obtain ⟨u,q,t,I⟩:=r.get G;rw [B] at q;cases q;exact ⟨t,I⟩
theorem Q8j {bs:List Bool} {its:List aB} (r:Vals (bs.map V.bl) its):∀ (i:Nat) (v:aB),its.toArray[i]?=some v->v=Value.bool (bs.getD i false):=fun i v e=>by
 have B:its[i]?=some v:=by simpa using e
 have hi:i < its.length:=(O0.mp B).1;have hl:=r.length;rw [O2] at hl;have G:(bs.map V.bl)[i]?=some (V.bl (bs.getD i false)):=by
  have:i < bs.length:=by omega
  simp [List.getD,this]
 obtain ⟨u,q,I⟩:=r.get G;rw [B] at q;cases q;exact I
theorem X0 {t:Bool} {q:Array aB} (hl:HasItems t s.heap l q):l≠s.heap.objs.size /\
  (IterAt t (s.heap.push (X1 t l)) s.heap.objs.size l 0/\HasItems t (s.heap.push (X1 t l)) l q)/\∀ b∈[s.heap.objs.size,l],b < (s.heap.push (X1 t l)).objs.size:=by
 obtain ⟨o,e⟩:=hl.there;have B:=O9 e;refine ⟨E9 B,⟨Q1r (D8 _ (xj _ _)),hl.at fun o e=>O1 _ e⟩,fun b G=>?_⟩
 rw [F4];simp at G;rcases G with rfl | rfl
 ·exact Nat.lt_succ_self _
 ·exact Nat.lt_succ_of_lt B
theorem Qk7 (t:Bool) (J:X.calm=true):K1 X (.builtin "sum") (fun xs H Q=>∃ (a:aA) (ns:List Int),xs=[.ref a]/\SqK X.K t H a (ns.map V.int)/\Q (.int ns.sum) H):=by
 intro pins s σ H xs us Q I r h;obtain ⟨a,ns,rfl,O,q⟩:=h;obtain ⟨u,rfl,U⟩:=Q1w r;cases U;obtain ⟨its,B,p,_⟩:=I.seqK O;obtain ⟨Y,G,Z⟩:=X0 p;have hl:=B.length;rw [O2] at hl;refine call_sum_walkAnyS (Ug p ⟨_,_,_,_,_,_,_,fun j=>ns.getD j 0,rfl,(Q4s (A:=X.A.in1) (I.ok.hd J) t _ a Y its.toArray).toS,G,Z,Q0i B,fun s' t' m=>?_⟩);refine ⟨.int ns.sum,H,I.movedNew m,⟨t',?_⟩,q⟩;rw [O4,<- hl,Qag]
theorem Qf4 (bs:List Bool):(List.range bs.length).all (fun i=>bs.getD i false)=bs.all id:=by
 induction bs with
 | nil=>rfl
 | cons b r q=>
  rw [D7,List.range_succ_eq_map,List.all_cons,List.all_map,List.all_cons,<- q];rfl
theorem Qf3 (bs:List Bool):(List.range bs.length).any (fun i=>bs.getD i false)=bs.any id:=by
 induction bs with
 | nil=>rfl
 | cons b r q=>
  rw [D7,List.range_succ_eq_map,List.any_cons,List.any_map,List.any_cons,<- q];rfl
theorem Qk9 (t:Bool) (J:X.calm=true):K1 X (.builtin "all") (fun xs H Q=>∃ (a:aA) (bs:List Bool),xs=[.ref a]/\SqK X.K t H a (bs.map V.bl)/\Q (.bl (bs.all id)) H):=by
 intro pins s σ H xs us Q I r h;obtain ⟨a,bs,rfl,O,q⟩:=h;obtain ⟨u,rfl,Y⟩:=Q1w r;cases Y;obtain ⟨its,B,p,_⟩:=I.seqK O;obtain ⟨Z,G,w3⟩:=X0 p;have hl:=B.length;rw [O2] at hl;refine call_all_walkS (Ug p ⟨_,_,_,_,_,_,_,fun j=>bs.getD j false,rfl,(Q4s (A:=X.A.in1) (I.ok.hd J) t _ a Z its.toArray).toS,G,fun i v s' Q' E' U hQ=>?_,fun s' m=>?_⟩)
 ·rw [Q8j B i v U];exact ar hQ
 ·refine ⟨.bl (bs.all id),H,I.movedNew m,?_,q⟩;show Value.bool _=_;rw [O4,<- hl,Qf4]
theorem Qk8 (t:Bool) (J:X.calm=true):K1 X (.builtin "any") (fun xs H Q=>∃ (a:aA) (bs:List Bool),xs=[.ref a]/\SqK X.K t H a (bs.map V.bl)/\Q (.bl (bs.any id)) H):=by
 intro pins s σ H xs us Q I r h;obtain ⟨a,bs,rfl,O,q⟩:=h;obtain ⟨u,rfl,Y⟩:=Q1w r;cases Y;obtain ⟨its,B,p,_⟩:=I.seqK O;obtain ⟨Z,G,w3⟩:=X0 p;have hl:=B.length;rw [O2] at hl;refine call_any_walkS (Ug p ⟨_,_,_,_,_,_,_,fun j=>bs.getD j false,rfl,(Q4s (A:=X.A.in1) (I.ok.hd J) t _ a Z its.toArray).toS,G,fun i v s' Q' E' U hQ=>?_,fun s' m=>?_⟩)
 ·rw [Q8j B i v U];exact ar hQ
 ·refine ⟨.bl (bs.any id),H,I.movedNew m,?_,q⟩;show Value.bool _=_;rw [O4,<- hl,Qf3]
theorem Qgk (t:Bool) (hc:X.calm=true):K1 X (.builtin "max") (fun xs H Q=>∃ (a:aA) (ns:List Int),xs=[.ref a]/\SqK X.K t H a (ns.map V.int)/\ns≠[]/\∀ m,m∈ns->(∀ k,k∈ns->k<=m)->Q (.int m) H):=by
 intro pins s σ H xs us Q I r h;obtain ⟨a,ns,rfl,hq,B,q⟩:=h;obtain ⟨u,rfl,r1⟩:=Q1w r;cases r1;obtain ⟨its,J,p,_⟩:=I.seqK hq;obtain ⟨w1,Z,w3⟩:=X0 p;have hl:=J.length;rw [O2] at hl;have O:0 < ns.length:=List.length_pos_iff.mpr B;refine call_max_walkS (Ug p ⟨_,_,_,_,_,_,_,_,rfl,(Q4s (A:=X.A.in1) (I.ok.hd hc) t _ a w1 its.toArray).toS,Z,w3,by rw [O4]; omega,CmpOf.ints_gt (fun j=>ns.getD j 0) (fun i v G=>Q0i J i v G),fun v s' G m=>?_⟩);obtain ⟨t',rfl⟩:=Q0i J _ _ G;obtain ⟨h1,h2⟩:=argBest_gt (fun j=>ns.getD j 0) (its.toArray.size - 1);have U:argBest (fun i j=>decide (ns.getD i 0 > ns.getD j 0)) (its.toArray.size - 1) < ns.length:=by
  have e':its.toArray.size=ns.length:=by rw [O4]; omega
  rw [e'] at h1 ⊢;exact Nat.lt_of_le_of_lt h1 (by omega)
 refine ⟨.int (ns.getD (argBest (fun i j=>decide (ns.getD i 0 > ns.getD j 0)) (its.toArray.size - 1)) 0),H,I.movedNew m,⟨t',rfl⟩,q _ ?_ fun k hk=>?_⟩
 ·rw [Q2e _ _ U];exact List.getElem_mem U
 ·obtain ⟨j,Y,rfl⟩:=List.mem_iff_getElem.mp hk;have:=h2 j (by rw [O4]; omega);rw [Q2e _ _ Y] at this;exact this
theorem Qgi (t:Bool) (hc:X.calm=true):K1 X (.builtin "min") (fun xs H Q=>∃ (a:aA) (ns:List Int),xs=[.ref a]/\SqK X.K t H a (ns.map V.int)/\ns≠[]/\∀ m,m∈ns->(∀ k,k∈ns->m<=k)->Q (.int m) H):=by
 intro pins s σ H xs us Q I r h;obtain ⟨a,ns,rfl,hq,B,q⟩:=h;obtain ⟨u,rfl,r1⟩:=Q1w r;cases r1;obtain ⟨its,J,p,_⟩:=I.seqK hq;obtain ⟨w1,Z,w3⟩:=X0 p;have hl:=J.length;rw [O2] at hl;have O:0 < ns.length:=List.length_pos_iff.mpr B;refine call_min_walkS (Ug p ⟨_,_,_,_,_,_,_,_,rfl,(Q4s (A:=X.A.in1) (I.ok.hd hc) t _ a w1 its.toArray).toS,Z,w3,by rw [O4]; omega,CmpOf.ints_lt (fun j=>ns.getD j 0) (fun i v G=>Q0i J i v G),fun v s' G m=>?_⟩);obtain ⟨t',rfl⟩:=Q0i J _ _ G;obtain ⟨h1,h2⟩:=argBest_lt (fun j=>ns.getD j 0) (its.toArray.size - 1);have U:argBest (fun i j=>decide (ns.getD i 0 < ns.getD j 0)) (its.toArray.size - 1) < ns.length:=by
  have e':its.toArray.size=ns.length:=by rw [O4]; omega
  rw [e'] at h1 ⊢;exact Nat.lt_of_le_of_lt h1 (by omega)
 refine ⟨.int (ns.getD (argBest (fun i j=>decide (ns.getD i 0 < ns.getD j 0)) (its.toArray.size - 1)) 0),H,I.movedNew m,⟨t',rfl⟩,q _ ?_ fun k hk=>?_⟩
 ·rw [Q2e _ _ U];exact List.getElem_mem U
 ·obtain ⟨j,Y,rfl⟩:=List.mem_iff_getElem.mp hk;have:=h2 j (by rw [O4]; omega);rw [Q2e _ _ Y] at this;exact this
theorem Qhx {o:HO} (h:H a=none):Same H (upd H a o):=fun b u e=>by rw [Qb (Qe e h)]; exact e
variable {te:TE} {H1:Hp} {Q:VK}
section
variable {cap:List (Option Nat)}
abbrev g2 (K:PySem.W.Frag):TG:=Qx8 K 2 (Qjk (Q89 0) (Qjk (Q89 1) Qx9))
end
def Qub:V->Option aB
 | .ty n=>some (.type n)
 | .ref a=>some (.ref a)
 | _=>none
theorem Qbj {c:V} {q u:aB} (e:Qub c=some q) (r:RelV c u):u=q:=by
 cases c with
 | ty n=>cases e; exact r
 | ref a=>cases e; exact r
 | _=>cases e
theorem Qbn:K1 X (.builtin "isinstance") (fun xs H Q=>∃ x c B t b,xs=[x,c]/\Qub c=some B/\TyOf X.K H x t/\PySem.W.kitOne X.K t B=some b/\Q (.bl b) H):=by
 intro pins s σ H xs us Q I r h;obtain ⟨x,c,B,t,b,rfl,J,ty,e,q⟩:=h;obtain ⟨u,U,rfl,O,G⟩:=Qdc r;rw [Qbj J G];exact Qg5 I O ty e fun tk=>⟨.bl b,H,I.tok tk,rfl,q⟩
theorem Qr:aZ "isinstance" = some (.builtin "isinstance"):=by decide +kernel
theorem Qkf:aZ "sum" = some (.builtin "sum"):=by decide +kernel
theorem Qkm:aZ "all" = some (.builtin "all"):=by decide +kernel
theorem Qkk:aZ "any" = some (.builtin "any"):=by decide +kernel
theorem Qki:aZ "max" = some (.builtin "max"):=by decide +kernel
theorem Qkh:aZ "min" = some (.builtin "min"):=by decide +kernel
theorem Qd6:aZ "tuple" = some (.type "tuple"):=by decide +kernel
theorem Qkj:aZ "int" = some (.type "int"):=by decide +kernel
theorem Qgu:aZ "bool" = some (.type "bool"):=by decide +kernel
theorem Qkg:aZ "str" = some (.type "str"):=by decide +kernel
def Tab (H:Hp) (a:aA) (tb:List (List Int)):Prop:=∃ rs:List aA,H a=some (.tup (rs.map V.ref))/\az (fun r row=>H r=some (.tup (List.map V.int row))) rs tb
def Sz (n:Nat) (tb:List (List Int)):Prop:=tb.length=n/\∀ row∈tb,row.length=n + 1
end L2
namespace L2
open PySem PySem.Spec PyProof.Rows PySem.W PySem.Builtin.Getset_descriptor
variable {M:Model} {R:Result->aC->Prop} {tk:Tok}
structure XCls (K:Frag) (C:aA):Prop where
 cls:(clsIn K C).isSome=true
 ga:findIn K (.ref C) "__getattribute__" = some (some (.builtin "BaseException.__getattribute__"))
 gt:findIn K (.ref C) "__getattr__" = some none
 cl:findIn K (.ref C) "__class__" = some (some (.builtin "object.__class__"))
 gs:specialIn K (.builtin "object.__class__") "__get__" = some (some (.builtin "getset_descriptor.__get__"))
 tk:takesIn K (.builtin "object.__class__")=some true
 ob:mroIn K C (.type "object")=some true
 be:mroIn K C (.type "BaseException")=some true
def IsX (x C:aA) (h:Heap):Prop:=∃ ox,h.get? x=some ox/\ox.cls=.ref C
theorem IsX.type {h:Heap} {x C:aA} (I:IsX x C h):Looks M h (typeOf (.ref x)) (.ref C):=by
 obtain ⟨q,h1,h2⟩:=I;exact h2 ▸ (Looks.ld h1).andThen .now
theorem Qm0 {K:Frag} {h:Heap} {x C:aA} (X:K.In h) (F:XCls K C):Looks M h (Builtin.ObjectAttr.find (.ref x) (.ref C) "__class__") (.bind (.builtin "getset_descriptor.__get__") (.builtin "object.__class__")):=by
 have G:=looks_findIn (M:=M) X F.cl;have B:Looks M h (Builtin.ObjectAttr.getOf (some (.builtin "object.__class__"))) (some (.builtin "getset_descriptor.__get__")):=looks_specialIn X F.gs;have q:Looks M h (Builtin.ObjectAttr.dataDescriptor? (some (.builtin "object.__class__")) (some (.builtin "getset_descriptor.__get__"))) (some (.builtin "getset_descriptor.__get__",.builtin "object.__class__")):=(looks_takesIn X F.tk).andThen .now;exact G.andThen (B.andThen (q.andThen (Looks.tag .now)))
variable {prog:aN} {A:aQ} {E:aB->aC->Prop} {g:Array GenState} {os:OsState} {K:Frag} {C:aA}
section
variable {w:aL} {h:Heap} {d:Drawn} {t:Nat} {x:aA}
theorem Qr2 {tp:aB} (X:K.In h) (F:XCls K C) (I:IsX x C h) (q:R (.ok (.ret (.ref C))) ⟨h,g,d,t,os⟩):codeAny (aJ prog w) A (.call (.builtin "getset_descriptor.__get__") ⟨[.builtin "object.__class__",.ref x,tp],[]⟩) R ⟨h,g,d,t,os⟩:=by
 have G:=I.type (M:=aJ prog w);have B:=looks_mroIn (M:=aJ prog w) X F.ob;refine codeAny_call_builtin KF.slot_gs.plain KF.entry_gs (KF.slot_gs.check _ _ _ _ _ _ _ _ KF.type_class (KF.args_gs _ _ _) ?_);unfold Builtin.«getset_descriptor.__get__» descrGet;rw [dga_obj];refine aF (aR ?_);unfold descrGetter descrCheckInstance descrNameAndClass isInstance;simp only [KF.owner_class]
 repeat lk
 refine ⟨Code.quiet_builtin _ (by decide +kernel),codeAny_builtin KF.entry_class ?_⟩;unfold Builtin.«object.__class__» shownTypeOf
 repeat lk
 exact q
theorem Qh5 {tk:Tok} {Q:Fin->aC->Prop} (X:K.In h) (F:XCls K C) (I:IsX x C h) (q:Q (.done (.ret (.ref C))) ⟨h,g,d,t,os⟩) :
  aI (aJ prog w) A (Builtin.«object.__getattribute__» ⟨[.ref x,.str "__class__" tk],[]⟩) Q E ⟨h,g,d,t,os⟩:=by
 have G:=I.type (M:=aJ prog w);have B:=Qm0 (M:=aJ prog w) (x:=x) X F;unfold Builtin.«object.__getattribute__»;refine aF (aR ?_);refine aF (aR ?_);refine aF (G.at (aF (B.at ?_)));show aI _ _ (Builtin.ObjectAttr.bindTo (.builtin "getset_descriptor.__get__") (.builtin "object.__class__") (.ref x) (.ref C)) _ _ _;unfold Builtin.ObjectAttr.bindTo;refine aF (av (wpAny_call (Qr2 X F I ?_)));exact aR q
theorem Qa0 {q:aB} {Q:Unit->aC->Prop} (X:K.In h) (F:XCls K C) (I:IsX x C h) (J:Q () ⟨h,g,d,t,os⟩):aI M A (checkBuiltinCall "BaseException.__getattribute__" ⟨[.ref x,q],[]⟩) Q E ⟨h,g,d,t,os⟩:=by
 have U:builtinKind "BaseException.__getattribute__" = some .slot:=by decide +kernel
 have B:splitId "BaseException.__getattribute__" = some ("BaseException", "__getattribute__"):=by decide +kernel
 have G:Looks M h (isInstance (.ref x) (.type "BaseException")) true:=(I.type).andThen (looks_mroIn X F.be);have O:=PySem.F.args_bexc_ga (.ref x) q;simp only [checkBuiltinCall,U,B];refine aF (G.at ?_);simp only [Bool.not_true,Bool.false_eq_true,if_false];exact wpAny_of_eq O J
theorem Qm1 {tk:Tok} (X:K.In h) (F:XCls K C) (I:IsX x C h) (q:R (.ok (.ret (.ref C))) ⟨h,g,d,t,os⟩) :
  codeAny (aJ prog w) A (.call (.builtin "BaseException.__getattribute__") ⟨[.ref x,.str "__class__" tk],[]⟩) R ⟨h,g,d,t,os⟩:=
 codeAny_call_builtin PySem.F.attr_ValueError.ga.plain PySem.F.entry_bexc_ga (Qa0 X F I (Qh5 X F I q))
theorem Qv2 {Q:aB->aC->Prop} (X:K.In h) (F:XCls K C) (I:IsX x C h) (Y:Q (.ref C) ⟨h,g,d,t,os⟩):aI (aJ prog w) A (getAttrBy (.ref x) (.str "__class__" tk) false) Q E ⟨h,g,d,t,os⟩:=by
 have J:=I.type (M:=aJ prog w);have G:=looks_findIn (M:=aJ prog w) X F.ga;have B:=looks_findIn (M:=aJ prog w) X F.gt;have q:(Value.builtin "BaseException.__getattribute__" == Value.builtin "object.__getattribute__")=false:=by decide +kernel
 have O:(onTheHeap (Value.ref C) && Value.builtin "BaseException.__getattribute__" == Value.builtin "object.__getattribute__")=false:=by rw [q]; rfl
 have U:=PySem.F.attr_ValueError.ga.bind (.ref x);unfold getAttrBy;refine av (aF (J.at (aF (G.at ?_))))
 repeat (any_goals (first | assumption | with_reducible refine B.at ?_ | wp_step))
 refine Qm1 X F I ?_
 repeat (any_goals (first | assumption | wp_step))
theorem Qm2 {Q:Option aB->aC->Prop} (X:K.In h) (F:XCls K C) (I:IsX x C h) (q:Q (some (.ref C)) ⟨h,g,d,t + 1,os⟩):aI (aJ prog w) A (getAttr? (.ref x) "__class__") Q E ⟨h,g,d,t,os⟩:=by
 unfold getAttr? getAttrBy?
 repeat (any_goals (first | assumption | with_reducible apply Qv2 X F I | wp_step))
end
theorem Qjb {x:aA} (F:XCls K C):KitX K (.ref x) (.ref C) (IsX x C) where
 ty:=fun _ _ _ I=>I.type
 it:=fun _ _ X _=>by
  obtain ⟨U,B⟩:=Option.isSome_iff_exists.mp F.cls;unfold clsIn at B
  split at B
  ·rename_i Z d' O G J;intro A' Q' E' s' k q;unfold isType loadHead;exact aF (wpAny_loadPart (k _ _ (X _ _ J)) (aR q))
  ·cases B
 ne:=fun h tp dd its n sl X Y=>by
  obtain ⟨U,B⟩:=Option.isSome_iff_exists.mp F.cls;refine Bool.eq_false_iff.mpr fun q=>?_
  have e:C=tp:=Value.ref.inj (beq_iff_eq.mp q);subst e;unfold clsIn at B
  split at B
  ·rename_i Z d' O G J;have z:=(X _ _ J).symm.trans Y;cases z
  ·cases B
 ca:=fun {prog w A E Q s} X I k=>by
  obtain ⟨h,g,d,t,os⟩:=s;exact Qm2 X F I k
end L2
namespace L2
open PySem PySem.Spec PyProof.Rows
variable {P:aN} {H:Hp} {a:aA} {e:aD} {es:List aD} {te:TE} {r:R2} {st:aK} {cl:List (Str × aA)}
theorem ObjOk.there {w:aL} {h:Heap} {o:HO} (x:ObjOk P w H h a o):∃ u,h.get? a=some u:=by
 cases o with
 | lst xs=>obtain ⟨_,_,_,_,e⟩:=x; exact ⟨_,e⟩
 | tup xs=>obtain ⟨_,_,_,o,e,_⟩:=x; exact ⟨o,e⟩
 | dK kvs=>obtain ⟨_,_,_,_,o,_,_,e,_⟩:=x; exact ⟨o,e⟩
 | dT kvs=>obtain ⟨_,_,_,_,o,_,_,e,_⟩:=x; exact ⟨o,e⟩
 | set S n=>obtain ⟨o,_,_,_,e,_⟩:=x; exact ⟨o,e⟩
 | ins C dx fs=>obtain ⟨_,_,_,e,_⟩:=x; exact ⟨_,e⟩
 | own y=>exact x
 | xd fs=>obtain ⟨_,⟨o,_,_,e,_⟩,_⟩:=x; exact ⟨o,e⟩
 | rng lo hi=>obtain ⟨_,_,_,e⟩:=x; exact ⟨_,e⟩
 | frz ob u=>obtain ⟨e,_⟩:=x; exact ⟨_,e⟩
 | tbl ps=>exact ⟨_,x⟩
 | met f y=>exact ⟨_,x⟩
 | ext q=>exact x.2.1
theorem HOk.none_of {w:aL} {h:Heap} (x:HOk P w H h) (e:h.get? a=none):H a=none:=by
 cases q:H a with
 | none=>rfl
 | some o=>
  obtain ⟨u,z⟩:=(x a o q).there;rw [e] at z;cases z
structure Fly (P:aN) (w:aL) (outer:List Env) (H H':Hp) (s s':aC) (a:aA) (cls a0:aB) (B:Heap):Prop where
 os:s'.os=s.os
 bare:AllBare s'.gens
 fl:Heap.FlyingW B outer a cls a0 s'.heap
 hokB:HOk P w H' B
 keep:∀ b o,s.heap.get? b=some o->H b=none->b∉frs outer->B.get? b=some o
 there:∀ b o,s.heap.get? b=some o->b∉frs outer->∃ o',B.get? b=some o'
 slot:∀ b o,s.heap.get? b=some o->b∈frs outer->∃ sl,s'.heap.get? b=some { o with slots:=sl }
 free:∀ b o,s.heap.get? b=some o->H b=none->H' b=none
 tups:∀ b xs,H b=some (.tup xs)->H' b=some (.tup xs)
 frzs:∀ b o u,H b=some (.frz o u)->H' b=some (.frz o u)
 tbls:∀ b ps,H b=some (.tbl ps)->∃ more,H' b=some (.tbl (ps ++ more))
abbrev Uj:List aB:=[.type "ValueError",.type "Exception",.type "BaseException",.type "object"]
theorem Qdu {K:PySem.W.Frag} {h:Heap} {C:aA} {G:List aB} {B:String} {x:Str} {mg:Str->Option aB} (X:K.In h) (m:mg x=some (.ref C)) (q:PySem.W.excIn K C G B=true):OwnCls x C G B mg h:=by
 refine ⟨m,?_⟩;unfold PySem.W.excIn at q
 split at q
 ·rename_i dd cd sl U
  split at q
  ·rename_i C' bm k0 k1 k2 k3 n k5 J hs;simp only [F5,beq_iff_eq,Bool.not_eq_true'] at q;obtain ⟨⟨⟨⟨⟨rfl,rfl⟩,hdel⟩,ht⟩,hok⟩,hni⟩:=q;obtain ⟨nm,bs,Y,ns,O,hd,sn,sub,ab,col,Z⟩:=cd;dsimp only at J hdel hok hni;subst J hdel;have I:sl=#[k0,k1,k2,k3,some (.builtin n),k5]:=by
    obtain ⟨l⟩:=sl;simp only at hs;rw [hs]
   subst I;exact ⟨bm,ns,nm,O,bs,hd,sn,sub,ab,col,dd,k0,k1,k2,k3,k5,_,X _ _ U,.of_isNs (PySem.W.isNs_of_in X hok),PySem.W.nsMap_none_of_in X hok hni,PySem.W.tail_of_in X ht⟩
  ·cases q
 ·cases q
variable {X:Cx}
def Qrh (C:aA) (E:XK) (t:TA):TS:=fun _ σ H=>t σ H fun vs H1=>vs.length<=sizeLine/\E (.ref C) none H1
def Us (X:Cx) (a:aA):Cx:={ X with A:=X.A.mark (some (.ref a)),calm:=false,xe:=fun _ _=>False }
variable {pins:List (aA × Obj)} {σ:St} {H H':Hp} {s s':aC} {a C:aA}
theorem Inv.suite (I:Inv X pins σ H s) (a:aA):Inv (Us X a) pins σ H s:=
 ⟨⟨I.ok.mod,I.ok.kind,I.ok.glob,I.ok.blt,I.ok.above,I.ok.inj,I.ok.has,I.ok.cab,fun h=>(by cases h),I.ok.frames,I.ok.stk,I.ok.exf,I.ok.bs,I.ok.bsz,I.ok.noex,I.ok.exfs,I.ok.funs,I.ok.frf⟩,I.os,I.bare,I.base,I.loc,I.cell,I.free,I.freeC,I.pin,I.hok,I.len⟩
theorem Inv.unsuite (ok:X.Ok) (I:Inv (Us X a) pins σ H s):Inv X pins σ H s:=⟨ok,I.os,I.bare,I.base,I.loc,I.cell,I.free,I.freeC,I.pin,I.hok,I.len⟩
theorem Fly.inv {cls a0:aB} {B J:Heap} (I:Inv X pins σ H s) (F:Fly X.prog X.w X.stack H H' s s' a cls a0 B) (Y:B.StaysIn J) (sm:s'.heap.UpToSlots J):Inv X pins σ H' { s' with heap:=J }:=by
 have sl:∀ b o,s.heap.get? b=some o->b∈frs X.stack->∃ sl,J.get? b=some { o with slots:=sl }:=fun b o q G=>by
  obtain ⟨sl,z⟩:=F.slot b o q G;obtain ⟨_,o',O,Z⟩:=I.stack.mem G;rw [q] at O;cases O;obtain ⟨U,z'⟩:=sm b _ z Z;exact ⟨U,z'⟩
 refine I.call' (s':={ s' with heap:=J }) (ch:=[]) F.os ⟨fun b o q n G _=>Y _ _ (F.keep b o q n G),fun b o q n G _=>sl b o q G,fun b o q n _=>F.free b o q n,fun b o q _=>?_,F.tups,F.frzs,F.tbls⟩ (F.hokB.kept Y) F.bare fun b z=>absurd z (by simp)
 by_cases G:b∈frs X.stack
 ·obtain ⟨sl,z⟩:=sl b o q G;exact ⟨_,z⟩
 ·obtain ⟨o',z⟩:=F.there b o q G;exact ⟨o',Y _ _ z⟩
theorem Fly.new {cls a0:aB} {B:Heap} (F:Fly X.prog X.w X.stack H H' s s' a cls a0 B):s.heap.get? a=none/\H' a=none:=by
 have O:B.get? a=none:=F.fl.2.1;refine ⟨?_,F.hokB.none_of O⟩;cases q:s.heap.get? a with
 | none=>rfl
 | some o=>
  by_cases U:a∈frs X.stack
  ·obtain ⟨_,o',G,I⟩:=F.fl.2.2.1.mem U;obtain ⟨Y,vs,J,_,hd,_⟩:=F.fl.first;rw [G] at J;cases J;exact absurd hd (I vs)
  ·obtain ⟨o',z⟩:=F.there a o q U;rw [O] at z;cases z
theorem Inv.track {s1:aC} {Y:Heap->Prop} (O:Inv X pins σ H s) (U:∀ b,b∉X.ex) (h0:s.heap.get? a=none) (I:Inv X pins σ H' s1) (J:H' a=none) (o:ObjOk X.prog X.w (upd H' a (.ext Y)) s1.heap a (.ext Y)):Inv X pins σ (upd H' a (.ext Y)) s1:=by
 have B:∀ b u,s.heap.get? b=some u->b≠a:=fun b u e z=>by rw [z,h0] at e; cases e
 have Z:∀ b u,X.s₀.heap.get? b=some u->b≠a:=fun b u e=>by
  obtain ⟨u',e'⟩:=O.base.there b u e (U b);exact B b u' e'
 refine ⟨I.ok,I.os,I.bare,?_,I.loc,I.cell,?_,?_,?_,?_,I.len⟩
 ·have G:=I.base;exact ⟨G.keep,G.slot,fun c o e n hx=>by rw [Qb (Z c o e)]; exact G.free c o e n hx,G.there,
   fun c ts e=>by have:=G.tups c ts e; rw [Qb (Qe this J)]; exact this,
   fun c o ts e=>by have:=G.frzs c o ts e; rw [Qb (Qe this J)]; exact this,
   fun c ps e=>by obtain ⟨more,q⟩:=G.tbls c ps e; exact ⟨more,by rw [Qb (Qe q J)]; exact q⟩⟩
 ·obtain ⟨m,⟨o,_,_,e,_⟩,_⟩:=O.loc;rw [Qb (B _ _ e)]; exact I.free
 ·intro x c e;obtain ⟨v,o,z,_⟩:=O.cell x c e;rw [Qb (B _ _ z)]; exact I.freeC x c e
 ·intro p hp;obtain ⟨e,n,ne,nf,d⟩:=I.pin p hp;exact ⟨e,by rw [Qb (B _ _ (O.pin p hp).1)]; exact n,ne,nf,d⟩
 ·intro c u q
  by_cases hc:c=a
  ·subst hc;rw [Qj] at q; cases q;exact o
  ·rw [Qb hc] at q;exact (I.hok c u q).stay (fun _ _ _ r=>r) (fun c' r=>by rw [Qb (Qe r J)]; exact r) fun c' ts r=>by rw [Qb (Qe r J)]; exact r
theorem Inv.forget {i:Nat} {n:Str} {m:Str->Option aB} {h':Heap} {v:Option aB} {tk:Nat} (I:Inv X pins σ H s) (Z:X.N.Nodup) (hi:X.N[i]?=some n) (hl:∀ (i:Nat) (x:Str) (v:V),X.N[i]?=some x->σ[i]?=some (some v)->Vis X.env.scope x->∃ u,RelV v u/\Qxr X.env s.heap m x u)
  (O:h'.Ns X.env.locals (fun x=>if x=n then v else m x)) (hs:Heap.SameBut X.env.locals s.heap h'):Inv X pins (σ.set i none) H { s with heap:=h',toks:=tk }:=by
 have cne:=I.cne;have B:HOk X.prog X.w H h':=I.hok.same I.free hs;have G:∀ b o,X.s₀.heap.get? b=some o->b≠X.env.locals:=fun b o e=>E9 (D3 (O9 e) I.ok.above)
 refine ⟨I.ok,I.os,I.bare,⟨fun b o e n Y J=>(hs.2 b (G b o e)).trans (I.base.keep b o e n Y J),fun b o e n Y J=>?_,I.base.free,fun b o e J=>?_,I.base.tups,I.base.frzs,I.base.tbls⟩,⟨_,O,fun j y v' e1 e2 e3=>?_⟩,fun y c e=>?_,I.free,I.freeC,fun p hp=>?_,B,by simpa using I.len⟩
 ·obtain ⟨sl,z⟩:=I.base.slot b o e n Y J;exact ⟨sl,(hs.2 b (G b o e)).trans z⟩
 ·obtain ⟨o',z⟩:=I.base.there b o e J;exact ⟨o',(hs.2 b (G b o e)).trans z⟩
 ·by_cases U:j=i
  ·subst U;rw [hi] at e1; cases e1;have:j < σ.length:=by have:=(O0.mp e2).1; simpa using this
   rw [E3 this] at e2;cases e2
  ·rw [O7 (Ne.symm U)] at e2;obtain ⟨u,r,q⟩:=hl j y v' e1 e2 e3;refine ⟨u,r,?_⟩;rcases q with ⟨k,e⟩ | ⟨k,c,e,z⟩
   ·refine .inl ⟨k,?_⟩;have:y≠n:=fun e=>U (Q5q Z e1 (e ▸ hi))
    simp [this,e]
   ·exact .inr ⟨k,c,e,z.sameBut hs (cne y c e)⟩
 ·obtain ⟨w',z⟩:=I.cell y c e;exact ⟨w',z.sameBut hs (cne y c e)⟩
 ·obtain ⟨e,n,ne,nf,d⟩:=I.pin p hp;exact ⟨(hs.2 p.1 ne).trans e,n,ne,nf,d⟩
theorem Q4v (l:aA) (q:Array aB) (n:Nat) (dd:Option aA) (sl:Array (Option aB)) (t:Tok) :
  Meets (Builtin.«tuple.__mul__» ⟨[.ref l,.int 1 t],[]⟩) (fun _ R s=>s.heap.get? l=some { cls:=.type "tuple",dict:=dd,data:=.seq q n,slots:=sl }/\R (.ok (.ret (.ref l))) s):=
 .of_wp fun prog w A R s h=>by
  obtain ⟨hp,g,d,tk,os⟩:=s; obtain ⟨hl,h⟩:=h
  wp_walk using wpAny_loadPart' hl
  exact ⟨_,rfl,h⟩
theorem Q4w (l:aA) (q:Array aB) (n:Nat) (dd:Option aA) (sl:Array (Option aB)) (x:Int) (t:Tok) (h1:¬ (decide (x < -(2 ^ 63)) || decide (x>=2 ^ 63))=true) (h2:¬ (q.isEmpty || x == 1)=true) (U:¬ (decide (x<=0) || q.isEmpty)=true) (J:¬ (q.size:Int) * x > (2 ^ 63 - 1) / 8) (I:¬ Builtin.Tuple.tupleTooMany ((q.size:Int) * x)=true)
  (O:((List.replicate x.toNat q).foldl (fun B G=>B ++ G) #[]).size<=sizeLine) :
  Meets (Builtin.«tuple.__mul__» ⟨[.ref l,.int x t],[]⟩) (fun _ R s=>s.heap.get? l=some { cls:=.type "tuple",dict:=dd,data:=.seq q n,slots:=sl } /\
   R (.ok (.ret (Value.ref s.heap.objs.size))) { s with heap:=s.heap.push { cls:=Value.type "tuple",data:=Data.seq ((List.replicate x.toNat q).foldl (fun B G=>B ++ G) #[]) } }):=
 .of_wp fun prog w A R s h=>by
  obtain ⟨hp,g,d,tk,os⟩:=s; obtain ⟨hl,h⟩:=h
  wp_walk using wpAny_loadPart' hl
  refine wpAny_ite_false (bP h1) ?_
  wp_walk using wpAny_loadPart' hl
  refine wpAny_ite_false (bP J) ?_
  wp_walk using wpAny_loadPart' hl
  all_goals first | exact ⟨_,rfl,h⟩ | (refine wpAny_ite_false (bP I) ?_; wp_walk) | skip
  all_goals first | exact ⟨_,rfl,h⟩ | (refine wpAny_ite_false (bP (Nat.not_lt.mpr O)) ?_; wp_walk; exact ⟨_,rfl,h⟩)
theorem Q6f (a:Int) (t:Tok) (l:aA) (q:Array aB) (n:Nat) (dd:Option aA) (sl:Array (Option aB)) :
  Meets (Builtin.«int.__rmul__» ⟨[.int a t,.ref l],[]⟩) (fun _ R s=>s.heap.get? l=some { cls:=.type "tuple",dict:=dd,data:=.seq q n,slots:=sl }/\R (.ok (.ret Value.notImplemented)) s):=
 .of_wp fun prog w A R s h=>by obtain ⟨hp,g,d,tk,os⟩:=s; obtain ⟨hl,h⟩:=h; wp_walk using wpAny_loadPart' hl; exact ⟨_,rfl,h⟩
theorem Q32:fillsNumberSlot (.type "tuple") "mul" = pure false:=
 PySem.fillsNumberSlot_seq (id := "tuple.__mul__") (r:=some (.builtin "tuple.__rmul__")) F.slot_tuple_mul.lookup (by decide +kernel) F.slot_tuple_rmul.lookup (by decide +kernel)
theorem Q92:seqRepeat? (.type "tuple")=pure (some (.builtin "tuple.__mul__")):=by
 unfold seqRepeat?;rw [PySem.seqSlot_of (T := "tuple") (name := "__mul__") (id := "tuple.__mul__") F.slot_tuple_mul.lookup (by decide +kernel),PySem.seqSlot_of (T := "tuple") (name := "__rmul__") (id := "tuple.__rmul__") F.slot_tuple_rmul.lookup (by decide +kernel)];rfl
def Qvu (K:PySem.W.Frag):R2:=fun x y H Q=>∃ a k xs,x=.ref a/\y=.int k/\SqT K H a xs/\xs≠[]/\1<=k/\xs.length * k.toNat<=4096 /\
 (k=1->Q (.ref a) H)/\(k≠1->∀ p,H p=none->Q (.ref p) (upd H p (.tup (List.replicate k.toNat xs).flatten)))
theorem Qnu:OpR X (aW .Mult) (Qvu X.K):=by
 intro pins s σ H x y v u Q I Z ry h;obtain ⟨a,k,xs,rfl,rfl,ha,O,hk,hz,q1,q2⟩:=h;cases Z;obtain ⟨t,rfl⟩:=ry;obtain ⟨its,r,p1,hs⟩:=I.tuple ha;obtain ⟨⟨cls,dd,data,sl⟩,ho,hc,n,hd⟩:=id p1;simp only at hc hd;subst hc hd;have hl:its.length=xs.length:=r.length.symm;have B:0 < its.length:=by rw [hl]; exact List.length_pos_iff.mpr O
 have a2:k.toNat<=4096:=by
  have:1 * k.toNat<=xs.length * k.toNat:=Nat.mul_le_mul_right _ (by omega);omega
 refine wpAny_binaryOp_repeat_ref (T := "tuple") (U := "int") (by decide) ⟨_,ho,rfl⟩ (fun s'=>typeIs_int s' k t) Q32 F.fills_int_mul F.slot_int_rmul Q92 F.slot_int_index.lookup
  (au F.slot_int_rmul (typeIs_int s k t) F.entry_int_rmul (F.args_int_rmul_2 _ _) (Q6f k t a its.toArray n dd sl)
   ⟨ho,rfl,⟨_,ho,rfl⟩,?_⟩)
 by_cases h1:k=1
 ·subst h1;exact au F.slot_tuple_mul ⟨_,ho,rfl⟩ F.entry_tuple_mul (F.args_tuple_mul_2 _ _) (Q4v a its.toArray n dd sl t) ⟨ho,⟨.ref a,H,I,rfl,q1 rfl⟩⟩
 ·have Y:List.foldl (fun x1 x2=>x1 ++ x2) #[] (List.replicate k.toNat its.toArray)=(List.replicate k.toNat its).flatten.toArray:=by
   have:=Q3a its k.toNat [];rw [List.nil_append] at this;exact this
  have G:(its.toArray.size:Int) * k=((its.length * k.toNat:Nat):Int):=by
   rw [O4,Int.natCast_mul,Int.toNat_of_nonneg (by omega)]
  have J:(List.replicate k.toNat its).flatten.length<=4096:=by rw [Q9d,hl,Nat.mul_comm]; exact hz
  have hb:its.length * k.toNat<=4096:=by rw [hl]; exact hz
  refine au F.slot_tuple_mul ⟨_,ho,rfl⟩ F.entry_tuple_mul (F.args_tuple_mul_2 _ _) (Q4w a its.toArray n dd sl k t ?_ ?_ ?_ ?_ ?_ ?_) ⟨ho,?_⟩
  ·rw [bP (by omega),bP (by omega)]; exact D2
  ·intro z;rcases Bool.or_eq_true_iff.mp z with z | z
   ·rw [List.isEmpty_toArray,List.isEmpty_iff] at z; rw [z] at B; simp at B
   ·exact h1 (eq_of_beq z)
  ·intro z;rcases Bool.or_eq_true_iff.mp z with z | z
   ·have:=of_decide_eq_true z; omega
   ·rw [List.isEmpty_toArray,List.isEmpty_iff] at z; rw [z] at B; simp at B
  ·rw [G]; omega
  ·rw [G];have:(4096:Int)<=sizeLine:=by decide
   show ¬ decide (((its.length * k.toNat:Nat):Int) > (sizeLine:Int))=true;rw [bP (by omega)]; exact D2
  ·rw [Y,O4]; exact F0 J (by decide)
  ·rw [Y];refine ⟨.ref s.heap.objs.size,_,I.laid (t':=s.toks) (o:=.tup (List.replicate k.toNat xs).flatten) (fun b ob q=>O1 _ q) (O8 _) ?_,rfl,q2 h1 _ (I.hok.fresh (O8 _))⟩;exact ⟨by rw [Q9d,Nat.mul_comm]; exact F0 hz (by decide),_,r.rep k.toNat,IsTup.new _ _⟩
open PySem.SeqAt
structure JE (X:Cx) (e:aD) (t:TE):Prop where out:PE X e t
structure JA (X:Cx) (es:List aD) (t:TA):Prop where out:PA X es t
structure JS (X:Cx) (st:aK) (t:TS):Prop where out:PS X st t
structure JSs (X:Cx) (sts:List aK) (t:TS):Prop where out:PSs X sts t
variable {pos:Pos}
theorem jok {q:List aK} {R:TS->Prop} (h:∃ t,JSs X q t/\R t):∃ t,PSs X q t/\R t:=by
 obtain ⟨t,a,b⟩:=h;exact ⟨t,a.out,b⟩
theorem Q6a:JA X [] Qri:=⟨Yg⟩
theorem Vb {t:TA} (q:JE X e te) (B:JA X es t) (hs:aO (e :: es) X.env=(false,aM e X.env) :: aO es X.env:=by rfl):JA X (e :: es) (Qqf te t):=⟨Qu q.out B.out hs⟩
theorem Q1q {t:TA} (h:JA X es t):JE X (.List es pos) (Qve t):=⟨Qcg h.out⟩
theorem Qtx {x:Str} {j:Nat}:JE X (.Constant (.str x) j pos) (tC (.str x)):=⟨qp⟩
theorem Qb9 {a b:aD} {ta tb:TE} {op:Operator} (G:OpR X (aW op) r) (q:JE X a ta) (B:JE X b tb):JE X (.BinOp a op b pos) (tOp r ta tb):=⟨Qqq G q.out B.out⟩
theorem Qx2 {a b:aD} {ta tb:TE} (G:IxR X r) (q:JE X a ta) (B:JE X b tb) (hs:Q9y b):JE X (.Subscript a b pos) (tOp r ta tb):=⟨Qqr G q.out B.out hs⟩
theorem Qpk:JSs X [] Qhe:=⟨Q94⟩
theorem K0 {rest:List aK} {t u:TS} (h1:JS X st t) (h2:JSs X rest u):JSs X (st :: rest) (Qva t u):=⟨zg h1.out h2.out⟩
theorem Qea {t:TS} (h1:JS X st t):JSs X [st] t:=⟨yn h1.out⟩
theorem Qx1 {c:aD} {a b:List aK} {tc:TT} {t u:TS} (G:PT X c tc) (q:JSs X a t) (B:JSs X b u):JS X (.If c a b pos) (Qvf tc t u):=⟨Qia G q.out B.out⟩
theorem Qjf (q:JE X e te):JS X (.Return (some e) pos) (Qrg te):=⟨Q5a q.out⟩
theorem Q1p {i:Nat} {x:Str} {pos':Pos} (G:X.N.Nodup) (hi:X.N[i]?=some x) (q:Loc X.env.scope x) (I:JE X e te) (hs:swapsWith e (some (.Name x pos')) pos.line X.env=pure false:=by rfl) (B:X.fn x=true\/X.env.scope.names.lookup x=some .local:=by first | exact .inl rfl | exact .inr rfl | assumption) :
  JS X (.Assign [.Name x pos'] e pos) (Qm8 te (Q89 i)):=⟨Q95 G hi q I.out hs B⟩
theorem X5:∀ (names:List (Str × ao)) (h:Heap) (q:List (Str × aA)) (x:Str) (c:aA),(ag h.objs.size names q).lookup x=some c ->
  q.lookup x=some c\/((x,NameKind.cell)∈names/\h.objs.size<=c/\(pushCells h names).IsCell c none)
 | [],_,_,_,_,e=>.inl e
 | (name,kind) :: r,h,q,x,c,e=>by
  unfold ag at e;unfold pushCells
  by_cases I:(kind == NameKind.cell)=true
  ·rw [bN I] at e ⊢;have O:kind=.cell:=by simpa using I
   have Y:=X5 r (h.push { cls:=.type "cell",data:=.cell none }) ((name,h.objs.size) :: q) x c (by rw [F4]; exact e);rw [F4] at Y;rcases Y with z | ⟨G,U,B⟩
   ·rw [E2] at z;cases J:x == name with
    | true=>
     rw [J] at z; cases z;exact .inr ⟨by rw [beq_iff_eq.mp J,O]; exact D5,O8 _,⟨_,pushCells_keeps _ _ _ _ (D8 _ rfl),rfl⟩⟩
    | false=>rw [J] at z; exact .inl z
   ·exact .inr ⟨D1 _ G,by omega,B⟩
  ·rw [bO I] at e ⊢;rcases X5 r h q x c e with z | ⟨G,U,B⟩
   ·exact .inl z
   ·exact .inr ⟨D1 _ G,U,B⟩
theorem Xv {x:Str}:∀ (names:List (Str × ao)) (n:Nat) (q:List (Str × aA)),(x,NameKind.cell)∉names->(ag n names q).lookup x=q.lookup x
 | [],_,_,_=>rfl
 | (name,kind) :: r,n,q,h=>by
  unfold ag;have G:(x,NameKind.cell)∉r:=fun z=>h (D1 _ z)
  by_cases B:(kind == NameKind.cell)=true
  ·rw [bN B,Xv r _ _ G,E2];cases I:x == name with
   | true=>exact absurd (by rw [beq_iff_eq.mp I,show kind=.cell by simpa using B]; exact D5) h
   | false=>rfl
  ·rw [bO B,Xv r _ _ G]
theorem z9 {x:Str} {c:aA}:∀ (names:List (Str × ao)) (n:Nat) (B:List (Str × aA)),(x,NameKind.cell)∈names->(ag n names B).lookup x=some c->n<=c
 | [],_,_,h,_=>by cases h
 | (name,kind) :: r,n,B,h,e=>by
  unfold ag at e
  by_cases G:(x,NameKind.cell)∈r
  ·by_cases I:(kind == NameKind.cell)=true
   ·rw [bN I] at e;exact Nat.le_of_succ_le (z9 r _ _ G e)
   ·rw [bO I] at e;exact z9 r _ _ G e
  ·rcases D4.mp h with q | q
   ·cases q;rw [bN (by decide),Xv r _ _ G,E2] at e;simp at e;exact Nat.le_of_eq e
   ·exact absurd q G
theorem zc:∀ (names:List (Str × ao)) (n:Nat) (q:List (Str × aA)),(∀ x c,q.lookup x=some c->c < n)->(∀ x y c,q.lookup x=some c->q.lookup y=some c->x=y) ->
  ∀ x y c,(ag n names q).lookup x=some c->(ag n names q).lookup y=some c->x=y
 | [],_,_,_,h=>h
 | (name,kind) :: r,n,q,h1,h2=>by
  unfold ag
  by_cases J:(kind == NameKind.cell)=true
  ·rw [bN J];refine zc r (n + 1) _ (fun x c e=>?_) (fun x y c e G=>?_)
   ·rw [E2] at e;cases I:x == name with
    | true=>rw [I] at e; cases e; exact Nat.lt_succ_self _
    | false=>rw [I] at e; exact Nat.lt_succ_of_lt (h1 x c e)
   ·rw [E2] at e G;cases I:x == name with
    | true=>
     rw [I] at e; cases e;cases B:y == name with
     | true=>rw [beq_iff_eq.mp I,beq_iff_eq.mp B]
     | false=>rw [B] at G; exact absurd (h1 y _ G) (Nat.lt_irrefl _)
    | false=>
     rw [I] at e;cases B:y == name with
     | true=>rw [B] at G; cases G; exact absurd (h1 x _ e) (Nat.lt_irrefl _)
     | false=>rw [B] at G; exact h2 x y c e G
  ·rw [bO J];exact zc r n q h1 h2
theorem Q6w {M:Model} {A:aQ} {E:aB->aC->Prop} {s:aC} {scope:Scope} {B:aA} {cl:List (Str × aA)} {qual:Str} {G:Option aA} {code:aB} {env:Env} {q:aA} {Q:Env->aC->Prop}
  (O:Q (newEnv scope s.heap.objs.size B (ag (s.heap.objs.size + 1) scope.names cl) qual G code (some env) q) { s with heap:=pushCells (s.heap.push { cls:=.type "dict",data:=.dict #[] }) scope.names }) :
  aI M A (newFunctionEnv scope B cl [] qual G code (some env) q) Q E s:=by
 simp only [newFunctionEnv,Option.isSome_some,if_true];refine aF (wpAny_alloc ?_);refine aF (wpAny_layCells _ (fun name kind J=>by cases I:kind == NameKind.cell <;> simp [I]) _ _ _ _ ?_);rw [show ({ s with heap:=s.heap.push { cls:=.type "dict",data:=.dict #[] } }:aC).heap.objs.size=s.heap.objs.size + 1 from F4 ..];refine aF ?_;rw [List.forIn_nil];exact aR (aR O)
def compOkC (N N':List Str) (sc scE:Scope) (cap:List (Option Nat)):Bool:=
 sc.kind == .function && sc.names.all (fun x=>x.2 != .cell || sc.names.lookup x.1 == some .cell) && sc.names.all (fun x=>x.2 != .local || sc.names.lookup x.1 == some .local) &&
 sc.names.all (fun x=>x.2 != .free || scE.names.lookup x.1 == some .cell || scE.names.lookup x.1 == some .free) && cap.length == N'.length &&
 (List.range cap.length).all (fun i=>match cap[i]? with
  | some (some j)=>(match N'[i]?,N[j]? with | some a,some b=>a == b && sc.names.lookup a == some .free | _,_=>false)
  | _=>true)
structure CompOkC (N N':List Str) (sc scE:Scope) (cap:List (Option Nat)):Prop where
 kind:sc.kind=.function
 cel:∀ x∈sc.names,x.2=.cell->sc.names.lookup x.1=some .cell
 loc:∀ x∈sc.names,x.2=.local->sc.names.lookup x.1=some .local
 fre:∀ x∈sc.names,x.2=.free->scE.names.lookup x.1=some .cell\/scE.names.lookup x.1=some .free
 len:cap.length=N'.length
 at_:∀ (i j:Nat),cap[i]?=some (some j)->∃ x,N'[i]?=some x/\N[j]?=some x/\sc.names.lookup x=some .free
theorem compOkC.of {N N':List Str} {sc scE:Scope} {cap:List (Option Nat)} (h:compOkC N N' sc scE cap=true):CompOkC N N' sc scE cap:=by
 unfold compOkC at h;simp only [F5,G7,beq_iff_eq,Bool.or_eq_true,bne_iff_ne] at h;obtain ⟨⟨⟨⟨⟨h1,h2⟩,h3⟩,h4⟩,h5⟩,h6⟩:=h;refine ⟨h1,fun x q e=>?_,fun x q e=>?_,fun x q e=>?_,h5,fun i j e=>?_⟩
 ·rcases h2 x q with z | z
  ·exact absurd e z
  ·exact z
 ·rcases h3 x q with z | z
  ·exact absurd e z
  ·exact z
 ·rcases h4 x q with (z | z) | z
  ·exact absurd e z
  ·exact .inl z
  ·exact .inr z
 ·have hi:i < cap.length:=(O0.mp e).1;have:=h6 i (E6.mpr hi);rw [e] at this;simp only at this;cases e1:N'[i]? with
  | none=>rw [e1] at this; cases this
  | some a=>
   cases e2:N[j]? with
   | none=>rw [e1,e2] at this; cases this
   | some b=>
    rw [e1,e2] at this;simp only [F5,beq_iff_eq] at this;obtain ⟨rfl,z⟩:=this;exact ⟨a,rfl,rfl,z⟩
def V7 (X:Cx) (N':List Str) (sc:Scope) (cl:List (Str × aA)) (C:aA) (s0:aC) (H0:Hp) (ex:List aA):Cx:=
 { X with N:=N',s₀:=s0,H₀:=H0,env:=compEnvC sc cl C X.env,outer:=X.stack,ex:=ex,fn:=fun x=>sc.names.lookup x == some .cell,pn:=[],xe:=fun _ _=>False }
theorem Qkp {pins:List (aA × Obj)} {σ:St} {H:Hp} {s:aC} {N N':List Str} {sc scE:Scope} {cap:List (Option Nat)} {cl:List (Str × aA)} {fp:List aA}
  (I:Inv X pins σ H s) (hN:X.N=N) (hE:X.env.scope=scE) (ck:CompOkC N N' sc scE cap) (c1:∀ x c,cl.lookup x=some c->X.env.cells.lookup x=some c) (c2:∀ x∈sc.names,x.2=.free->∃ c,cl.lookup x.1=some c)
  (hf:∀ b∈fp,Q6v X pins H b) (a6:∀ b∈fp,b < s.heap.objs.size) :
  Inv (V7 X N' sc (ag (s.heap.objs.size + 1) sc.names cl) s.heap.objs.size s H fp) [] (Q2i cap σ) H { s with heap:=pushCells (s.heap.push { cls:=.type "dict",data:=.dict #[] }) sc.names }:=by
 obtain ⟨J,O⟩:∃ J,pushCells (s.heap.push { cls:=.type "dict",data:=.dict #[] }) sc.names=J:=⟨_,rfl⟩;obtain ⟨B,G⟩:∃ B,ag (s.heap.objs.size + 1) sc.names cl=B:=⟨_,rfl⟩;rw [O,G];have keep:∀ b o,s.heap.get? b=some o->J.get? b=some o:=fun b o e=>by rw [<- O]; exact pushCells_keeps _ _ b o (O1 _ e)
 have a9:J.Ns s.heap.objs.size (fun _=>none):=by rw [<- O]; exact (Heap.Ns.new s.heap (.type "dict")).keeps (pushCells_keeps _ _)
 have look:∀ x c,B.lookup x=some c->cl.lookup x=some c\/(s.heap.objs.size + 1<=c/\J.IsCell c none):=fun x c e=>by
  rw [<- G] at e;have:=X5 (sc.names) (s.heap.push { cls:=.type "dict",data:=.dict #[] }) cl x c (by rw [F4]; exact e);rw [F4,O] at this;rcases this with z | ⟨_,z,z'⟩
  ·exact .inl z
  ·exact .inr ⟨z,z'⟩
 have Y:∀ x c,cl.lookup x=some c->c < s.heap.objs.size:=fun x c e=>by
  obtain ⟨v,o,ho,_⟩:=I.cell x c (c1 x c e);exact O9 ho
 have inj:∀ x y c,B.lookup x=some c->B.lookup y=some c->x=y:=by
  rw [<- G];exact zc _ _ _ (fun x c e=>Nat.lt_succ_of_lt (Y x c e)) fun x y c a b=>I.ok.inj x y c (c1 x c a) (c1 y c b)
 have a8:∀ x,sc.names.lookup x=some .cell->∃ c,B.lookup x=some c:=fun x e=>by
  rw [<- G];exact Option.isSome_iff_exists.mp (PySem.W.cellsFrom_some _ _ _ (.inl e))
 have a5:∀ x,sc.names.lookup x=some .free->B.lookup x=cl.lookup x:=fun x e=>by
  rw [<- G];refine Xv _ _ _ fun z=>?_
  have:=ck.cel _ z rfl;rw [e] at this; cases this
 have kindOf:∀ x k,(compEnvC sc B s.heap.objs.size X.env).kindOf x=some k->k=.cell\/k=.free->sc.names.lookup x=some .free\/sc.names.lookup x=some .cell:=fun x k e hk=>by
  have e':(relabel sc X.env).names.lookup x=some k:=e;rw [Q09] at e';cases q:sc.names.lookup x with
  | none=>rw [q] at e'; cases e'
  | some k'=>
   rw [q] at e';have a4:(if (k' == NameKind.free && X.env.scope.kind == .function && X.env.kindOf x == some .cell)=true then NameKind.cell else k')=k:=Option.some.inj e'
   by_cases U:(k' == NameKind.free && X.env.scope.kind == .function && X.env.kindOf x == some .cell)=true
   ·simp only [F5,beq_iff_eq] at U;rw [U.1.1]; exact .inl rfl
   ·rw [bO U] at a4;subst a4;rcases hk with z | z
    ·rw [z]; exact .inr rfl
    ·rw [z]; exact .inl rfl
 have cellAt:∀ x c,X.env.cells.lookup x=some c->∀ v,s.heap.IsCell c v->J.IsCell c v:=fun x c e v ⟨o,ho,hd⟩=>⟨o,keep c o ho,hd⟩
 have a2:∀ c,s.heap.objs.size<=c->H c=none:=fun c U=>I.hok.fresh U
 refine ⟨⟨I.ok.mod,ck.kind,I.ok.glob,I.ok.blt,O8 _,inj,fun x hx=>?_,fun x c h1 h2=>?_,I.ok.hd,I.ok.frames,.inl rfl,fun b hb=>?_,I.bs,
  F0 I.ok.bsz I.sz,fun b o e hb=>?_,fun b hb hz=>?_,I.stack,I.stkFree⟩,rfl,I.bare,Un.kept keep,⟨_,a9,fun i x v e1 e2 e3=>?_⟩,fun x c e=>?_,a2 _ (O8 _),fun x c e=>?_,fun p hp=>(by cases hp),I.hok.kept keep,?_⟩
 ·have hx:(compEnvC sc B s.heap.objs.size X.env).kindOf x=some .cell\/(compEnvC sc B s.heap.objs.size X.env).kindOf x=some .free:=hx;have q:sc.names.lookup x=some .free\/sc.names.lookup x=some .cell:=by
   rcases hx with z | z
   ·exact kindOf x _ z (.inl rfl)
   ·exact kindOf x _ z (.inr rfl)
  rcases q with q | q
  ·obtain ⟨c,U⟩:=c2 _ (PySem.mem_of_lookup q) rfl;exact ⟨c,(a5 x q).trans U⟩
  ·exact a8 x q
 ·have h1:sc.names.lookup x=some .cell:=by simpa [V7] using h1
  have h2:B.lookup x=some c:=h2;rw [<- G] at h2;exact F0 (Nat.le_succ _) (z9 _ _ _ (PySem.mem_of_lookup h1) h2)
 ·refine ⟨E9 (a6 b hb),fun x c e=>?_⟩;rcases look x c e with z | ⟨z,_⟩
  ·exact (hf b hb).2.2.2.2.1 x c (c1 x c z)
  ·exact fun q=>absurd (D3 (a6 b hb) (F0 (Nat.le_succ _) (q ▸ z))) (Nat.lt_irrefl _)
 ·rcases (hf b hb).2.2.2.1 with z | z
  ·exact I.ok.noex b o e z
  ·exact absurd (D3 (O9 e) (F0 I.ok.bsz z)) (Nat.lt_irrefl _)
 ·rcases D4.mp (I.stkSub b hz) with e | z
  ·exact (hf b hb).2.1 e
  ·exact (hf b hb).2.2.1 z
 ·have e1:N'[i]?=some x:=e1;have e2:(Q2i cap σ)[i]?=some (some v):=e2;unfold Q2i at e2;rw [E5] at e2;cases q:cap[i]? with
  | none=>rw [q] at e2; cases e2
  | some oj=>
   rw [q] at e2;cases oj with
   | none=>cases e2
   | some j=>
    obtain ⟨y,z1,z2,z3⟩:=ck.at_ i j q;rw [e1] at z1; cases z1;have ev:σ[j]?=some (some v):=by
     have Z:(σ[j]?).join=some v:=Option.some.inj e2;cases r:σ[j]? with
     | none=>rw [r] at Z; cases Z
     | some o=>rw [r] at Z; exact congrArg some Z
    obtain ⟨m',b0,hl⟩:=I.loc;have sK:X.env.scope.names.lookup x=some .cell\/X.env.scope.names.lookup x=some .free:=by rw [hE]; exact ck.fre _ (PySem.mem_of_lookup z3) rfl
    obtain ⟨u,ru,l⟩:=hl j x v (by rw [hN]; exact z2) ev (sK.elim (fun z=>.inr (.inl z)) fun z=>.inr (.inr z))
    refine ⟨u,ru,?_⟩;obtain ⟨c,U⟩:=c2 _ (PySem.mem_of_lookup z3) rfl;rcases l with ⟨k,_⟩ | ⟨k,c',a7,a3⟩
    ·have k:X.env.scope.names.lookup x=some .local:=k;rcases sK with z | z <;> (rw [k] at z; cases z)
    ·have:c=c':=by
      have q1:=c1 x c U;rw [a7] at q1;exact (Option.some.inj q1).symm
     subst this;refine .inr ⟨?_,c,(a5 x z3).trans U,cellAt x c a7 _ a3⟩;show (relabel sc X.env).names.lookup x=some .cell\/(relabel sc X.env).names.lookup x=some .free;rw [Q09,z3];show some (if _ then NameKind.cell else NameKind.free)=_\/some (if _ then NameKind.cell else NameKind.free)=_
     split
     ·exact .inl rfl
     ·exact .inr rfl
 ·rcases look x c e with z | ⟨_,z⟩
  ·obtain ⟨v,q⟩:=I.cell x c (c1 x c z);exact ⟨v,cellAt x c (c1 x c z) v q⟩
  ·exact ⟨_,z⟩
 ·rcases look x c e with z | ⟨z,_⟩
  ·exact I.freeC x c (c1 x c z)
  ·exact a2 c (by omega)
 ·unfold Q2i;show _=N'.length;rw [O2];exact ck.len
theorem Qra {x y:V} {us:List aB} (r:Vals [x,y] us):∃ u w,us=[u,w]/\RelV x u/\RelV y w:=by
 cases r with
 | cons a r=>
  cases r with
  | cons b r=>
   cases r with
   | nil=>exact ⟨_,_,rfl,a,b⟩
end L2
namespace PySem
open Sem (wp)
variable {prog:aN} {A:aQ} {E:aB->aC->Prop} {hp:Heap} {gs:Array GenState} {dr:Drawn} {tk:Nat} {sy:OsState} {cn cq:Str} {kC kN:aA} {bas tl:List aB} {hd:Bool} {sns:List Str} {subs:List aB} {abb:Bool} {coll:Option Bool} {j0 j1 j2 j3 j5:Option aB} {BB Bn newI nI initI inN:String} {tN:List aB}
section
variable {w:aL} {tB:List aB} {dic:Option aA}
theorem Q4u (J:ExcBaseFacts Bn newI inN tN) (B:tB.contains (.type Bn)=true) (F:ExcBaseFacts BB nI initI tB) (T:OwnTail hp tB tl) {rest:List aB} {O:aA} {U:Obj} {Q:Fin->aC->Prop}
  (G:hp.get? kC=some (excClassObj cn cq kC kN bas tl hd sns subs abb coll dic j0 j1 j2 j3 j5 newI)) {K:PySem.W.Frag} (X:K.In hp) (ei:PySem.W.findIn K (.ref kC) "__init__" = some (some (.ref O))) (of:hp.get? O=some U) (Z:U.cls=.type "function")
  (hq:∀ h',(∀ b o,hp.get? b=some o->h'.get? b=some o)->h'.get? (hp.objs.size + 1)=some { cls:=.ref kC,data:=.fields #[.ref hp.objs.size,.none,.none,.none,.bool false,.none] }->aI (aJ prog w) A (call (.ref O) (.ref (hp.objs.size + 1) :: rest)) (fun r s'=>r=.none/\Q (.done (.ret (.ref (hp.objs.size + 1)))) s') E ⟨h',gs,dr,tk,sy⟩) (hz:rest.length<=sizeLine) :
  aI (aJ prog w) A (Builtin.«type.__call__» ⟨.ref kC :: rest,[]⟩) Q E ⟨hp,gs,dr,tk,sy⟩:=by
 repeat (first | with_reducible refine wpAny_loadPart_at G ?_ | with_reducible refine wpAny_madeBy_exc G ?_ | wp_step)
 refine codeAny_call_builtin_code (Code.quiet_builtin _ J.quiet) (wpAny_check_new_subU J B T G ?_);refine codeAny_exc_new_subU J B F T G ?_ hz;show aI _ _ _ _ _ _;obtain ⟨h2,e2⟩:∃ h2,(hp.push { cls:=.type "tuple",data:=.seq rest.toArray }).push { cls:=.ref kC,data:=.fields #[.ref hp.objs.size,.none,.none,.none,.bool false,.none] }=h2:=⟨_,rfl⟩;have kp:∀ b o,hp.get? b=some o->h2.get? b=some o:=fun b o q=>by rw [<- e2]; exact O1 _ (O1 _ q)
 have Y:h2.get? (hp.objs.size + 1)=some { cls:=.ref kC,data:=.fields #[.ref hp.objs.size,.none,.none,.none,.bool false,.none] }:=by rw [<- e2]; heap_get
 have ot:h2.get? hp.objs.size=some { cls:=.type "tuple",data:=.seq rest.toArray }:=by rw [<- e2]; exact O1 _ (Heap.get?_push_at rfl rfl)
 rw [e2];have I:=kp _ _ G;have self:(Value.ref kC :: tl).contains (.ref kC)=true:=by simp
 unfold isInstance
 repeat (first | with_reducible refine wpAny_loadPart_at Y ?_ | (with_reducible refine wpAny_isSubtype_exc I ?_; rw [self]) | wp_step)
 show aI _ _ (typeLookup (.ref kC) _) _ _ _;refine (PySem.W.looks_findIn (X.keeps kp) ei).at ?_;refine av (aF ?_);unfold bindSpecial;refine aF (bJ (T := "function") ⟨_,kp _ _ of,Z⟩ ?_);rw [bN (by decide)];refine aR (aF (ae (hq h2 kp Y) (fun r s' z=>?_) fun _ _ z=>z))
 obtain ⟨rfl,z⟩:=z
 wp_walk
 exact z
theorem Qd5 (O:ExcBaseFacts Bn newI inN tN) (B:tB.contains (.type Bn)=true) (F:ExcBaseFacts BB nI initI tB) (T:OwnTail hp tB tl) {rest:List aB} {G:aA} {I:Obj} {Q:aB->aC->Prop}
  (q:hp.get? kC=some (excClassObj cn cq kC kN bas tl hd sns subs abb coll dic j0 j1 j2 j3 j5 newI)) {K:PySem.W.Frag} (X:K.In hp) (Y:PySem.W.findIn K (.ref kC) "__init__" = some (some (.ref G))) (of:hp.get? G=some I) (J:I.cls=.type "function")
  (U:∀ h',(∀ b o,hp.get? b=some o->h'.get? b=some o)->h'.get? (hp.objs.size + 1)=some { cls:=.ref kC,data:=.fields #[.ref hp.objs.size,.none,.none,.none,.bool false,.none] }->aI (aJ prog w) (A.under (.builtin "type.__call__" ⟨.ref kC :: rest,[]⟩)) (call (.ref G) (.ref (hp.objs.size + 1) :: rest)) (fun r s'=>r=.none/\Q (.ref (hp.objs.size + 1)) s') E ⟨h',gs,dr,tk,sy⟩) (hz:rest.length<=sizeLine) :
  aI (aJ prog w) A (call (.ref kC) rest) Q E ⟨hp,gs,dr,tk,sy⟩:=by
 have l1:=tc_lookup;have l2:=tc_bind (.ref kC);have ty:(⟨hp,gs,dr,tk,sy⟩:aC).TypeIs (.ref kC) "type" := ⟨_,q,rfl⟩;refine wpAny_call (codeAny_of_tree ?_);show aI _ _ (callAny (.ref kC) _) _ _ _
 repeat (any_goals (first | assumption | with_reducible refine wpAny_loadPart_at q ?_ | wp_step))
 refine ⟨rfl,?_⟩;exact codeAny_call_builtin_at (Code.quiet_builtin _ (by decide +kernel)) entry_typeCall (wpAny_check_type_call_sub q (Q4u (hz:=hz) O B F T q X Y of J fun h' k m=>U h' k m))
end
variable {M:Model} {env:Env}
section
variable {dic:Option aA}
theorem Q71 {s:aC} {x:Sem aB} {Q:Flow->aC->Prop} (I:tl.contains (.type "BaseException")=true) (G:A.handled=none)
  (h:aI M A x (fun v s1=>∃ e t dv,v=.ref e/\s1.heap.get? kC=some (excClassObj cn cq kC kN bas tl hd sns subs abb coll dic j0 j1 j2 j3 j5 newI) /\
   s1.heap.get? e=some { cls:=.ref kC,dict:=dv,data:=.fields #[.ref t,.none,.none,.none,.bool false,.none] }/\E (.ref e) s1) E s):aI M A (raiseStmt env (some x) none) Q E s:=by
 have B:(Value.ref kC :: tl).contains (.type "BaseException")=true:=by rw [List.contains_cons,I,Bool.or_true]
 unfold raiseStmt;refine aF (ae h (fun v s1 z=>?_) fun _ _ z=>z)
 obtain ⟨e,t,dv,rfl,q,J,z⟩:=z;obtain ⟨hp,gs,dr,tk,sy⟩:=s1
 repeat (first | with_reducible refine wpAny_loadPart_at J ?_ | with_reducible refine wpAny_loadPart_at q ?_ | (with_reducible refine wpAny_isSubtype_exc q ?_; rw [B]) | wp_step)
 exact wpAny_raiseNew_none G z
end
end PySem
namespace L2
open PySem PySem.Spec PyProof.Rows PySem.W PySem.Builtin.ObjectAttr
structure XSet (K:Frag) (C W:aA) (name:Str):Prop where
 sa:findIn K (.ref C) "__setattr__" = some (some (.builtin "object.__setattr__"))
 ob:mroIn K C (.type "object")=some true
 cls:∃ cd,clsIn K C=some cd/\cd.mro=.ref C :: .ref W :: Uj/\cd.hasDict=true
 no:findIn K (.ref C) name=some none
variable {prog:aN} {A:aQ} {E:aB->aC->Prop} {s:aC} {K:Frag} {C W:aA} {name:Str} {v:aB}
section
variable {w:aL} {x:aA}
theorem Qm3 {vs:Array aB} {Q:Unit->aC->Prop} (X:K.In s.heap) (S:XSet K C W name) (G:s.heap.get? x=some { cls:=.ref C,data:=.fields vs })
  (hq:∀ h' tk,h'.get? x=some { cls:=.ref C,dict:=some s.heap.objs.size,data:=.fields vs }->h'.Ns1 s.heap.objs.size (fun y=>if y=name then some v else none) ->
   (∀ b o,b≠x->s.heap.get? b=some o->h'.get? b=some o)->Q () { s with heap:=h',toks:=tk }):aI (aJ prog w) A (setAttr (.ref x) name v) Q E s:=by
 have J:InstAt s.heap x { cls:=.ref C,data:=.fields vs } C none:=⟨G,rfl,rfl,True.intro⟩;obtain ⟨cd,Z,hm,hd⟩:=S.cls;refine set_plain X J S.sa ?_;have B:=PySem.F.store_ValueError;have sub:Looks (aJ prog w) s.heap (isInstance (.ref x) (.type "object")) true:=J.type.andThen (looks_mroIn X S.ob);refine codeAny_call_builtin B.slot.plain B.entry (@check_slot (aJ prog w) _ _ { s with toks:=s.toks + 1 } "object.__setattr__" "object" "__setattr__" (.ref x) [.str name s.toks,v] [] _ B.kind B.split sub (B.args (.ref x) (.str name s.toks) v) ?_);have lm:Looks (aJ prog w) s.heap (mroOf (.ref C)) cd.mro:=(looks_clsIn X Z).andThen .now;rw [osa_eq,refuse_eq];refine aF (aF (Looks.here (s:={ s with toks:=s.toks + 1 }) J.type (aF (Looks.here (s:={ s with toks:=s.toks + 1 }) lm ?_))));rw [hm,refuseLoop_ref,refuseLoop_ref,B.passes];refine aR (aF (Looks.here (s:={ s with toks:=s.toks + 1 }) J.type (aF (Looks.here (s:={ s with toks:=s.toks + 1 }) (looks_findIn X S.no) (aF (aR ?_))))))
 dsimp only;unfold storeInOwnDict;refine aF (aR (aF ?_));unfold ownDictForStores instanceDict;refine aF (wpAny_loadPart G (aF (Looks.here (s:={ s with toks:=s.toks + 1 }) (looks_clsIn X Z) ?_)));rw [hd];have od:(s.heap.push { cls:=.type "dict",data:=.dict #[] }).get? x=some { cls:=.ref C,data:=.fields vs }:=O1 _ G;have xs:x≠s.heap.objs.size:=E9 (O9 G);have th:typeHasDict (.ref C)=true:=rfl;dsimp only;rw [bO (by decide),bO (by rw [th]; decide)];refine aF (wpAny_alloc' ?_);refine aF (wpAny_update' od ?_);refine aR ?_;obtain ⟨h2,e2⟩:∃ h2,((s.heap.push { cls:=.type "dict",data:=.dict #[] }).update x fun o=>{ cls:=o.cls,dict:=some s.heap.objs.size,data:=o.data,slots:=o.slots })=h2:=⟨_,rfl⟩
 have g2:h2.get? s.heap.objs.size=some { cls:=.type "dict",data:=.dict #[] }:=by rw [<- e2]; exact (Heap.get?_update_ne _ _ _ _ xs.symm).trans (Heap.get?_push_at rfl rfl)
 have x2:h2.get? x=some { cls:=.ref C,dict:=some s.heap.objs.size,data:=.fields vs }:=by rw [<- e2]; exact G8 _ od rfl
 have k2:∀ b o,b≠x->s.heap.get? b=some o->h2.get? b=some o:=fun b o n q=>by rw [<- e2]; exact (Heap.get?_update_ne _ _ _ _ n).trans (O1 _ q)
 have n2:h2.Ns s.heap.objs.size (fun _=>none):=⟨_,#[],_,g2,rfl,fun e he=>absurd he (by simp),fun _=>rfl⟩;show aI _ _ (storeInDict s.heap.objs.size (.str name s.toks) name v) _ _ _;rw [e2];unfold storeInDict newKeyGuard;refine aF (aR (aF (wpAny_nsSet1 (Heap.Ns1.of_empty n2) fun h' Y sb=>?_)))
 obtain ⟨oD,a2,a3,U,O,I⟩:=Y.count (Within.cons name v Within.nil);refine aF (wpAny_lookBehind U (by rw [O]; exact pastItsLine_dict (F0 I (by rw [D7,List.length_nil,sizeLine_eq]; omega))) ?_);exact aR (hq h' _ ((sb.2 x xs).trans x2) Y fun b o n q=>(sb.2 b (E9 (O9 q))).trans (k2 b o n q))
end
end L2
namespace L2
open PySem PySem.Spec PyProof.Rows PySem.W
def XO (x C:aA) (dv:Option aA) (h:Heap):Prop:=∃ t,h.get? x=some { cls:=.ref C,dict:=dv,data:=.fields #[.ref t,.none,.none,.none,.bool false,.none] }
theorem Qh3 {P:aN} {w:aL} {H:Hp} {h:Heap} {x C:aA} {dv:Option aA} (o:XO x C dv h):ObjOk P w H h x (.ext (XO x C dv)):=
 ⟨o,o.elim fun t e=>⟨_,e⟩,fun h1 h2 ⟨t,e⟩ k=>⟨t,k _ e⟩⟩
structure XMade (K:Frag) (C W f:aA):Prop where
 lk:∃ nm q N bs sn sub ab col dd k0 k1 k2 k3 k5,K.lookup C=some (excClassObj nm q C N bs (.ref W :: Uj) true sn sub ab col dd k0 k1 k2 k3 k5 "ValueError.__new__")
 xw:excIn K W Uj "ValueError.__new__" = true
 fi:findIn K (.ref C) "__init__" = some (some (.ref f))
 ff:∃ o,K.lookup f=some o/\o.cls=.type "function"
 kp:keepIn K (.ref C)=true
theorem XMade.tail {K:Frag} {C W f:aA} {h:Heap} (M:XMade K C W f) (X:K.In h):OwnTail h Uj (.ref W :: Uj):=by
 obtain ⟨tl,N,nm,I,bs,hdct,sn,sub,ab,col,dd,k0,k1,k2,k3,k5,mN,G,B,q,T⟩:=(Qdu (mg:=fun _=>some (.ref W)) (x := "W") X rfl M.xw).obj
 exact .own G B q .base
variable {prog:aN} {A:aQ} {E:aB->aC->Prop} {s:aC} {K:Frag} {C W f:aA}
section
variable {w:aL} {x:aA}
theorem Qr3 {u:aB} {Q:aB->aC->Prop} (X:K.In s.heap) (M:XMade K C W f) (o:XO x C none s.heap)
  (G:∀ h',(∀ b o,b≠x->s.heap.get? b=some o->h'.get? b=some o)->XO x C none h'->Q .none { s with heap:=h' }):aI (aJ prog w) A (call (.builtin "ValueError.__init__") [.ref x,u]) Q E s:=by
 obtain ⟨t,B⟩:=o;obtain ⟨nm,q,N,bs,sn,sub,ab,col,dd,k0,k1,k2,k3,k5,lk⟩:=M.lk;obtain ⟨hp,gs,dr,tk,sy⟩:=s;refine wpAny_call (codeAny_call_builtin PySem.F.excBase_ValueError.init.plain PySem.F.excBase_ValueError.initEntry (wpAny_check_init_subU PySem.F.excBase_ValueError (M.tail X) (X _ _ lk) B rfl ?_))
 wp_walk
 refine G _ (fun b o n e=>?_) ⟨hp.objs.size,?_⟩
 ·rw [E7 _ _ (Ne.symm n)];exact O1 _ e
 ·rw [G8 _ (O1 _ B) rfl];rfl
end
variable {X:Cx}
section
variable {x:aA}
structure XCall (K:Frag) (W:aA):Prop where
 ga:specialIn K (.ref W) "__getattribute__" = some (some (.builtin "type.__getattribute__"))
 rd:readsIn K W (.type "type")=true
 fc:findCls K (.ref W) (.type "type") "__init__" = some (.val (.builtin "ValueError.__init__"))
def tXI (K:Frag) (C W f:aA) (t:TA):TE:=fun σ H Q=>t σ H fun vs H1=>∃ x y,vs=[.ref x,y]/\H1 x=some (.ext (XO x C none))/\Q .non H1
theorem Qig {n:Str} {p apos pos:Pos} {a b:aD} {t:TA} {pl:Sem Bool} (M:XMade X.K C W f) (L:XCall X.K W) (hg:Gl X n) (hm:X.mg n=some (.ref W)) (ha:PA X [a,b] t) (B:(n == ("__debug__" : Str))=false:=by decide)
  (G:aO [a,b] X.env=[(false,aM a X.env),(false,aM b X.env)]:=by rfl)
  (Z:aM (.Call (.Attribute (.Name n p) "__init__" apos) [a,b] [] pos) X.env=(do
   let ov <- aM (.Name n p) X.env
   standAt apos.atName
   let (g,first) <- aj [ov] (getMethod ov "__init__" pl)
   callWith pos g first (aU pos (aO [a,b] X.env)) (backToKw pos (keywordEach [] X.env))):=by rfl) :
  PE X (.Call (.Attribute (.Name n p) "__init__" apos) [a,b] [] pos) (tXI X.K C W f t):=by
 intro pins s σ H Q I h;refine methodCall_KW (pl:=pl) (Xu I hg hm ?_ B) Z;refine method_cls I.kIn L.ga (cls_value I.kIn L.rd L.fc (by first | rfl | kernel_rfl) ?_);have I1:Inv X pins σ H { s with toks:=s.toks + 1 }:=I.tok _;have U:=ha pos pins _ σ H _ I1 h;rw [G] at U ⊢;refine Calls.callWith_builtin rfl (Calls.evalArgs_plain ?_);refine thn U fun us s2 ⟨vs,H2,O,Y,x,y,e,J,q⟩=>?_
 subst e;obtain ⟨u1,u2,rfl,r1,r3⟩:=Qra Y;cases r1;refine Qr3 O.kIn M (O.hok x _ J).1 fun h' kk o=>?_
 refine ⟨.non,H2,?_,rfl,q⟩;have:=O.write (x:=x) (e:=x) (o:=.ext (XO x C none)) (t':=s2.toks) (h':=h') (by rw [J]; exact trivial) (.inl rfl) kk (o.elim fun t e=>⟨_,e⟩) (Qh3 o);have eq:upd H2 x (.ext (XO x C none))=H2:=by
  funext b
  by_cases z:b=x
  ·subst z; rw [Qj,J]
  ·rw [Qb z]
 rw [eq] at this;exact this
theorem Inv.trackO {pins:List (aA × Obj)} {σ:St} {H H':Hp} {s1:aC} {a:aA} {Y:HO} (O:Inv X pins σ H s) (U:∀ b,b∉X.ex) (h0:s.heap.get? a=none) (I:Inv X pins σ H' s1) (J:H' a=none) (o:ObjOk X.prog X.w (upd H' a Y) s1.heap a Y):Inv X pins σ (upd H' a Y) s1:=by
 have B:∀ b u,s.heap.get? b=some u->b≠a:=fun b u e z=>by rw [z,h0] at e; cases e
 have Z:∀ b u,X.s₀.heap.get? b=some u->b≠a:=fun b u e=>by
  obtain ⟨u',e'⟩:=O.base.there b u e (U b);exact B b u' e'
 refine ⟨I.ok,I.os,I.bare,?_,I.loc,I.cell,?_,?_,?_,?_,I.len⟩
 ·have G:=I.base;exact ⟨G.keep,G.slot,fun c o e n hx=>by rw [Qb (Z c o e)]; exact G.free c o e n hx,G.there,
   fun c ts e=>by have:=G.tups c ts e; rw [Qb (Qe this J)]; exact this,
   fun c o ts e=>by have:=G.frzs c o ts e; rw [Qb (Qe this J)]; exact this,
   fun c ps e=>by obtain ⟨more,q⟩:=G.tbls c ps e; exact ⟨more,by rw [Qb (Qe q J)]; exact q⟩⟩
 ·obtain ⟨m,⟨o,_,_,e,_⟩,_⟩:=O.loc;rw [Qb (B _ _ e)]; exact I.free
 ·intro x c e;obtain ⟨v,o,z,_⟩:=O.cell x c e;rw [Qb (B _ _ z)]; exact I.freeC x c e
 ·intro p hp;obtain ⟨e,n,ne,nf,d⟩:=I.pin p hp;exact ⟨e,by rw [Qb (B _ _ (O.pin p hp).1)]; exact n,ne,nf,d⟩
 ·intro c u q
  by_cases hc:c=a
  ·subst hc;rw [Qj] at q; cases q;exact o
  ·rw [Qb hc] at q;exact (I.hok c u q).stay (fun _ _ _ r=>r) (fun c' r=>by rw [Qb (Qe r J)]; exact r) fun c' ts r=>by rw [Qb (Qe r J)]; exact r
def tXS (C:aA) (name:Str) (ta tv:TE):TS:=fun D σ H=>tv σ H fun y H1=>ta σ H1 fun v H2=>∃ x,v=.ref x/\H2 x=some (.ext (XO x C none)) /\
 ∀ dx,H2 dx=none->dx≠x->D.nx σ (upd (upd H2 x (.ext (XO x C (some dx)))) dx (.xd [(name,y)]))
theorem Qnb {o value:aD} {name:Str} {ta tv:TE} {pos pos':Pos} (G:∀ b,b∉X.ex) (S:XSet X.K C W name) (ha:PE X o ta) (hv:PE X value tv) (hs:swapsWith value (some (.Attribute o name pos')) pos.line X.env=pure false:=by rfl) :
  PS X (.Assign [.Attribute o name pos'] value pos) (tXS C name ta tv):=by
 intro pins s σ H D I h;refine plainObj_wpAny_Assign_Attribute (thn (hv pins s σ H _ I h) fun u s1 ⟨y,H1,I1,ry,q⟩=>thn (ha pins s1 σ H1 _ I1 q) fun Y s2 ⟨v,H2,B,Z,x,ex,J,q2⟩=>?_) hs
 subst ex;obtain rfl:Y=Value.ref x:=Z;obtain ⟨t,O⟩:=(B.hok x _ J).1;refine Qm3 B.kIn S O fun h' tk o' U kk=>?_
 have xs:s2.heap.objs.size≠x:=Nat.ne_of_gt (O9 O);have I3:=B.write (x:=x) (e:=x) (o:=.ext (XO x C (some s2.heap.objs.size))) (t':=tk) (h':=h') (by rw [J]; exact trivial) (.inl rfl) kk ⟨_,o'⟩ (Qh3 ⟨t,o'⟩);refine ⟨σ,_,?_,q2 s2.heap.objs.size B.fresh xs⟩;refine Inv.trackO B G (Heap.get?_none_of_le (O8 _)) I3 (by rw [Qb xs]; exact B.fresh) ⟨_,U,fun g=>?_⟩;show RelO ([(name,y)].lookup g) (if g=name then some u else none)
 by_cases z:g=name
 ·subst z;rw [bN rfl,E2,show (g == g)=true by simp];exact ry
 ·have:(g == name)=false:=by simpa using z
  rw [bO z,E2,this];exact trivial
end
end L2
namespace PySem
open Sem (wp)
def zm (o:Obj):Option aB:=match o.data with | .fields vs=>vs[2]? | _=>none
theorem Qbf {o:Obj} {vs:Array aB} {x:aB} (q:o.data=.fields vs):zm (Obj.mapFields (·.setIfInBounds 1 x) o)=zm o:=by
 have d:=Obj.data_mapFields q (·.setIfInBounds 1 x);unfold zm;rw [d,q];exact Array.getElem?_setIfInBounds_ne (by decide)
variable {M:Model} {A:aQ} {E:aB->aC->Prop} {s:aC} {en:Env} {ou:List Env} {L e:aA} {ob:Obj} {vs:Array aB} {Q:Unit->aC->Prop}
section
variable {bs:Heap} {a0:aB}
theorem Q6m {G:aB} {nx:Bool} (fr:A.frames=some (en :: ou)) (ff:s.heap.FunFrames bs (en :: ou)) (ef:en.frame=some L) (oe:s.heap.get? e=some ob) (kb:bs.StaysIn s.heap) (ne:bs.get? e=none)
  (J:ob.data=.fields vs) (z1:1 < vs.size) (z0:vs[0]?=some a0)
  (h:∀ h',Heap.LeftW bs (en :: ou) e ob.cls a0 s.heap h'->(∃ o',h'.get? e=some o'/\o'.dict=ob.dict/\zm o'=zm ob)->Q () { s with heap:=h' }) :
  aI M A (do
   let a <- frameOf en
   let pl <- entryPlaceOf L nx
   let b <- EntryCells.newEntry G a .none (af L) .none pl
   setField (.ref e) 1 b) (fun _ s'=>aI M A (setFlight (.ref e) none) Q E s') E s:=by
 have nf:e∉(en :: ou).filterMap (·.frame):=fun m=>by
  obtain ⟨_,o,q,n⟩:=ff.mem m;rw [oe] at q;cases q;exact n vs J
 refine aF (wpAny_frameOf_fun fr ff ef fun g gs=>?_);refine aF (wpAny_entryPlaceOf fun pl hp=>?_);unfold EntryCells.newEntry newFields;refine aF (ay ?_ (hp.sizeOk5 _ _ _ _ _));have ge:g.get? e=some ob:=(gs.2.1 e nf).trans oe;have gb:bs.StaysIn g:=fun b o q=>(gs.2.1 b fun m=>by
  rw [(ff.mem m).1] at q;cases q).trans (kb b o q)
 obtain ⟨tb,Y⟩:∃ tb:List aB,[G,.ref L,.none,af L,.none] ++ (if pl.isEmpty then List.replicate 6 Value.none else pl)=tb:=⟨_,rfl⟩;have l5:3 < tb.length/\tb[3]?=some (af L):=by
  rw [<- Y];exact ⟨by simp,by simp⟩
 rw [Y];have U:=O1 (h:=g) { cls:=.type "traceback",dict:=none,data:=.fields tb.toArray } ge;refine wpAny_setField U J z1 ?_;have te:g.objs.size≠e:=Nat.ne_of_gt (O9 ge);have d3:=Obj.data_mapFields J (·.setIfInBounds 1 (Value.ref g.objs.size));have B:=G8 (Obj.mapFields (·.setIfInBounds 1 (Value.ref g.objs.size))) U (Obj.isFreed_of_fields d3);have I:=(E7 (g.push { cls:=.type "traceback",dict:=none,data:=.fields tb.toArray })
  (Obj.mapFields (·.setIfInBounds 1 (Value.ref g.objs.size))) te.symm).trans
  (D8 g rfl)
 unfold setFlight;refine aF (aY B d3 (x:=.ref g.objs.size) (by simp [z1]) ?_);rw [bN (show (Value.ref g.objs.size != Value.none)=true by simp)];refine wpAny_setField I rfl (by simpa using l5.1) (h _ ?_ ?_)
 all_goals
  obtain ⟨Z,O⟩:∃ Z,((g.push { cls:=.type "traceback",dict:=none,data:=.fields tb.toArray }).update e (Obj.mapFields (·.setIfInBounds 1 (Value.ref g.objs.size))))=Z:=⟨_,rfl⟩;rw [O] at B I ⊢
 ·have kp:∀ b o,b≠e->g.get? b=some o->(Z.update g.objs.size (Obj.mapFields (·.setIfInBounds 3 ((none:Option aA).elim Value.none fun f=>af f)))).get? b=some o:=fun b o n q=>by
   rw [E7 _ _ (Nat.ne_of_gt (O9 q)),<- O,E7 _ _ n.symm];exact O1 _ q
  have nr:∀ b o,s.heap.get? b=some o->(∀ ws,o.data≠.fields ws)->b≠e:=fun b o q n z=>by
   rw [z,oe] at q;cases q;exact n vs J
  refine ⟨fun b o q=>kp b o (fun z=>by rw [z,ne] at q; cases q) (gb b o q),ff.of_keeps fun b o q n=>?_,?_,fun b o q n=>?_⟩
  ·obtain ⟨sl,z⟩:=gs.2.2 b o q;exact ⟨_,kp b _ (nr b o q n) z,rfl⟩
  ·refine ⟨_,_,g.objs.size,_,_,?_,⟨Obj.cls_mapFields _ _,?_⟩,d3,by simp [z1],gb.fresh,te,G8 _ I (Obj.isFreed_of_fields (Obj.data_mapFields rfl _)),Obj.data_mapFields rfl _,?_⟩
   ·rw [E7 _ _ te];exact B
   ·rw [Array.getElem?_setIfInBounds_ne (by decide)];exact z0
   ·have:=l5.1;simp [this]
  ·obtain ⟨sl,z⟩:=gs.2.2 b o q;exact ⟨sl,kp b _ (nr b o q n) z⟩
 ·refine ⟨_,(E7 _ _ te).trans B,?_,Qbf J⟩;cases ob with
  | mk c d dt sl=>cases dt <;> first | rfl | cases J
theorem Qb6 (J:A.frames=some (en :: ou)) (ff:s.heap.FunFrames bs (en :: ou)) (q:en.frame=some L) (I:s.heap.get? e=some ob) (kb:bs.StaysIn s.heap) (ne:bs.get? e=none)
  (G:ob.data=.fields vs) (B:vs[1]?=some .none) (O:vs[0]?=some a0)
  (h:∀ h',Heap.LeftW bs (en :: ou) e ob.cls a0 s.heap h'->(∃ o',h'.get? e=some o'/\o'.dict=ob.dict/\zm o'=zm ob)->Q () { s with heap:=h' }):aI M A (leaving en (.ref e)) Q E s:=by
 unfold leaving noteFrame;simp only [q];refine aF (aF (aY I G B ?_));rw [bO (by decide)];exact Q6m J ff q I kb ne G (Array.getElem?_eq_some_iff.mp B).1 O h
theorem Qb5 {cls:aB} {dv:Option aA} (Z:A.frames=some (en :: ou)) (O:en.frame=some L) (fl:Heap.FlyingW bs (en :: ou) e cls a0 s.heap) (dd:∃ o',s.heap.get? e=some o'/\o'.dict=dv/\zm o'=some .none)
  (h:∀ h',Heap.FlyingW bs ou e cls a0 h'->(∃ o',h'.get? e=some o'/\o'.dict=dv/\zm o'=some .none)->s.heap.UpToSlots h'->Q () { s with heap:=h' }):aI M A (leaving en (.ref e)) Q E s:=by
 obtain ⟨kb,ne,ff,oe,U,T,oT,ts,I,⟨hc,z0⟩,od,z1,nT,Te,hT,dT,z3⟩:=fl;obtain ⟨o',B,J,G⟩:=dd;rw [I] at B;cases B;unfold leaving noteFrame;simp only [O];refine aF (aF (aY I od z1 ?_));rw [bN (show (Value.ref T != Value.none)=true by simp)];refine aF (aY hT dT z3 ?_);rw [bO (show ¬ ((Value.none == af L)=true) by simp [af])];refine aF (wpAny_setField hT dT (Array.getElem?_eq_some_iff.mp z3).1 ?_);have ot:∀ b,b≠T->(s.heap.update T (Obj.mapFields (·.setIfInBounds 3 Value.none))).get? b=s.heap.get? b:=fun b n=>E7 _ _ n.symm
 have Y:∀ b o,s.heap.get? b=some o->(∀ U,o.data≠.fields U)->b≠T:=fun b o q n z=>by
  rw [z,hT] at q;cases q;exact n ts dT
 refine Q6m Z (ff.of_keeps fun b o q n=>⟨o,(ot b (Y b o q n)).trans q,rfl⟩) O ((ot e Te.symm).trans I) (fun b o q=>(ot b fun z=>by rw [z,nT] at q; cases q).trans (kb b o q)) ne od (Array.getElem?_eq_some_iff.mp z1).1 z0 fun h' lf d'=>?_
 obtain ⟨k1,⟨_,_,k2⟩,k3,k4⟩:=lf;rw [hc] at k3;exact h h' ⟨k1,ne,k2,k3⟩ (d'.imp fun o q=>⟨q.1,q.2.1.trans J,q.2.2.trans G⟩) fun b o q n=>k4 b o ((ot b (Y b o q n)).trans q) n
theorem Q42 {B:aB} {nx:Bool} (fr:A.frames=some (en :: ou)) (ff:s.heap.FunFrames bs (en :: ou)) (ef:en.frame=some L) (Y:s.heap.get? e=some ob) (kb:bs.StaysIn s.heap) (ne:bs.get? e=none)
  (G:ob.data=.fields vs) (z1:1 < vs.size) (z0:vs[0]?=some a0)
  (h:∀ h',Heap.NotedW bs (en :: ou) e ob.cls a0 (af L) s.heap h'->(∃ o',h'.get? e=some o'/\o'.dict=ob.dict/\zm o'=zm ob)->Q () { s with heap:=h' }) :
  aI M A (do
   let a <- frameOf en
   let pl <- entryPlaceOf L nx
   let b <- EntryCells.newEntry B a .none (af L) .none pl
   setField (.ref e) 1 b) Q E s:=by
 have nf:e∉(en :: ou).filterMap (·.frame):=fun m=>by
  obtain ⟨_,o,q,n⟩:=ff.mem m;rw [Y] at q;cases q;exact n vs G
 refine aF (wpAny_frameOf_fun fr ff ef fun g gs=>?_);refine aF (wpAny_entryPlaceOf fun pl hp=>?_);unfold EntryCells.newEntry newFields;refine aF (ay ?_ (hp.sizeOk5 _ _ _ _ _));have ge:g.get? e=some ob:=(gs.2.1 e nf).trans Y;have gb:bs.StaysIn g:=fun b o q=>(gs.2.1 b fun m=>by
  rw [(ff.mem m).1] at q;cases q).trans (kb b o q)
 obtain ⟨tb,O⟩:∃ tb:List aB,[B,.ref L,.none,af L,.none] ++ (if pl.isEmpty then List.replicate 6 Value.none else pl)=tb:=⟨_,rfl⟩;have l5:3 < tb.length/\tb[3]?=some (af L):=by
  rw [<- O];exact ⟨by simp,by simp⟩
 rw [O];have I:=O1 (h:=g) { cls:=.type "traceback",dict:=none,data:=.fields tb.toArray } ge;have te:g.objs.size≠e:=Nat.ne_of_gt (O9 ge);have Z:=Obj.data_mapFields G (·.setIfInBounds 1 (Value.ref g.objs.size));have J:=G8 (Obj.mapFields (·.setIfInBounds 1 (Value.ref g.objs.size))) I (Obj.isFreed_of_fields Z);have U:=(E7 (g.push { cls:=.type "traceback",dict:=none,data:=.fields tb.toArray })
  (Obj.mapFields (·.setIfInBounds 1 (Value.ref g.objs.size))) te.symm).trans
  (D8 g rfl)
 refine wpAny_setField I G z1 (h _ ?_ ?_)
 ·have kp:∀ b o,b≠e->g.get? b=some o->((g.push { cls:=.type "traceback",dict:=none,data:=.fields tb.toArray }).update e (Obj.mapFields (·.setIfInBounds 1 (Value.ref g.objs.size)))).get? b=some o:=fun b o n q=>by
   rw [E7 _ _ n.symm];exact O1 _ q
  have nr:∀ b o,s.heap.get? b=some o->(∀ ws,o.data≠.fields ws)->b≠e:=fun b o q n z=>by
   rw [z,Y] at q;cases q;exact n vs G
  refine ⟨fun b o q=>kp b o (fun z=>by rw [z,ne] at q; cases q) (gb b o q),ff.of_keeps fun b o q n=>?_,?_,fun b o q n=>?_⟩
  ·obtain ⟨sl,z⟩:=gs.2.2 b o q;exact ⟨_,kp b _ (nr b o q n) z,rfl⟩
  ·refine ⟨_,_,g.objs.size,_,_,J,⟨Obj.cls_mapFields _ _,?_⟩,Z,by simp [z1],gb.fresh,te,U,rfl,by simpa using l5.2⟩;rw [Array.getElem?_setIfInBounds_ne (by decide)];exact z0
  ·obtain ⟨sl,z⟩:=gs.2.2 b o q;exact ⟨sl,kp b _ (nr b o q n) z⟩
 ·refine ⟨_,J,?_,Qbf G⟩;cases ob with
  | mk c d dt sl=>cases dt <;> first | rfl | cases G
theorem Q85 {cls:aB} {dv:Option aA} (fr:A.frames=some (en :: ou)) (O:en.frame=some L) (fl:Heap.FlyingW bs (en :: ou) e cls a0 s.heap) (dd:∃ o',s.heap.get? e=some o'/\o'.dict=dv/\zm o'=some .none)
  (h:∀ h',Heap.HeldW bs (en :: ou) e cls a0 L h'->(∃ o',h'.get? e=some o'/\o'.dict=dv/\zm o'=some .none)->s.heap.UpToSlots h'->Q () { s with heap:=h' }):aI M A (noteFrame (.ref e) en) Q E s:=by
 obtain ⟨kb,ne,ff,oe,U,T,oT,ts,I,⟨hc,z0⟩,od,z1,nT,Te,hT,dT,z3⟩:=fl;obtain ⟨o',B,J,G⟩:=dd;rw [I] at B;cases B;unfold noteFrame;simp only [O];refine aF (aY I od z1 ?_);rw [bN (show (Value.ref T != Value.none)=true by simp)];refine aF (aY hT dT z3 ?_);rw [bO (show ¬ ((Value.none == af L)=true) by simp [af])];refine aF (wpAny_setField hT dT (Array.getElem?_eq_some_iff.mp z3).1 ?_);have ot:∀ b,b≠T->(s.heap.update T (Obj.mapFields (·.setIfInBounds 3 Value.none))).get? b=s.heap.get? b:=fun b n=>E7 _ _ n.symm
 have Y:∀ b o,s.heap.get? b=some o->(∀ U,o.data≠.fields U)->b≠T:=fun b o q n z=>by
  rw [z,hT] at q;cases q;exact n ts dT
 refine Q42 fr (ff.of_keeps fun b o q n=>⟨o,(ot b (Y b o q n)).trans q,rfl⟩) O ((ot e Te.symm).trans I) (fun b o q=>(ot b fun z=>by rw [z,nT] at q; cases q).trans (kb b o q)) ne od (Array.getElem?_eq_some_iff.mp z1).1 z0 fun h' Z d'=>?_
 obtain ⟨k1,k2,k3,k4⟩:=Z;rw [hc] at k3;exact h h' ⟨k1,ne,k2,k3⟩ (d'.imp fun o q=>⟨q.1,q.2.1.trans J,q.2.2.trans G⟩) fun b o q n=>k4 b o ((ot b (Y b o q n)).trans q) n
theorem jf {l:List Env} {cls fv:aB} {dv:Option aA} (kb:bs.StaysIn s.heap) (ne:bs.get? e=none) (ff:s.heap.FunFrames bs l) (tr:s.heap.TracedAtW bs e cls a0 fv) (dd:∃ o',s.heap.get? e=some o'/\o'.dict=dv/\zm o'=some .none)
  (h:∀ h',Heap.FlyingW bs l e cls a0 h'->(∃ o',h'.get? e=some o'/\o'.dict=dv/\zm o'=some .none)->s.heap.UpToSlots h'->Q () { s with heap:=h' }):aI M A (setFlight (.ref e) none) Q E s:=by
 obtain ⟨oe,O,T,oT,ts,Y,hc,od,Z,nT,J,U,dT,z3⟩:=tr;obtain ⟨o',G,I,B⟩:=dd;have s3:=(Array.getElem?_eq_some_iff.mp z3).1;have ot:∀ b,b≠T->(s.heap.update T (Obj.mapFields (·.setIfInBounds 3 ((none:Option aA).elim Value.none fun f=>af f)))).get? b=s.heap.get? b:=fun b n=>E7 _ _ n.symm
 have nr:∀ b o,s.heap.get? b=some o->(∀ O,o.data≠.fields O)->b≠T:=fun b o q n z=>by
  rw [z,U] at q;cases q;exact n ts dT
 unfold setFlight;refine aF (aY Y od Z ?_);rw [bN (show (Value.ref T != Value.none)=true by simp)];refine wpAny_setField U dT s3 (h _ ⟨fun b o q=>(ot b fun z=>by rw [z,nT] at q; cases q).trans (kb b o q),ne,ff.of_keeps fun b o q n=>⟨o,(ot b (nr b o q n)).trans q,rfl⟩,?_⟩ ⟨o',(ot e J.symm).trans G,I,B⟩ fun b o q n=>⟨o.slots,(ot b (nr b o q n)).trans q⟩)
 exact ⟨oe,O,T,_,_,(ot e J.symm).trans Y,hc,od,Z,nT,J,G8 _ U (Obj.isFreed_of_fields (Obj.data_mapFields dT _)),Obj.data_mapFields dT _,by simp [s3]⟩
end
end PySem
namespace L2
open PySem PySem.Spec PyProof.Rows
variable {X:Cx} {H H1:Hp} {a b C:aA} {σ:St} {e:aD} {fd:aP} {ps:List Str}
def CXD (P:aN) (w:aL):CXT:=fun outer H s E e s'=>∃ a cls a0 dv H' B,e=Value.ref a/\Fly P w outer H H' s s' a cls a0 B/\(∃ o',s'.heap.get? a=some o'/\o'.dict=dv/\zm o'=some .none)/\E cls dv H'
theorem Qnp {P:aN} {w:aL} :Ke (CXD P w) X E0:=fun _ _ _ _ _ _ _ h=>by
 obtain ⟨_,_,_,_,_,_,_,_,_,z⟩:=h;exact z.elim
def Q9q (H:Hp) (a:aA):Hp:=fun b=>if b=a then none else H b
theorem Q4n (h:b≠a):Q9q H a b=H b:=by unfold Q9q; rw [bO h]
theorem Q0z :Q9q H a a=none:=by unfold Q9q; rw [bN rfl]
theorem Inv.drop {pins:List (aA × Obj)} {s:aC} {G:Heap->Prop} (I:Inv X pins σ H s) (h:H a=some (.ext G)):Inv X pins σ (Q9q H a) s:=by
 have nn:∀ b,H b=none->Q9q H a b=none:=fun b e=>by
  by_cases z:b=a
  ·subst z; exact Q0z
  ·rw [Q4n z]; exact e
 have B:∀ b o,H b=some o->o≠.ext G->Q9q H a b=some o:=fun b o e n=>by
  rw [Q4n fun z=>?_]
  ·exact e
  ·subst z; rw [h] at e; exact n (Option.some.inj e).symm
 refine ⟨I.ok,I.os,I.bare,?_,I.loc,I.cell,nn _ I.free,fun x c e=>nn _ (I.freeC x c e),fun p hp=>?_,fun b u q=>?_,I.len⟩
 ·have u:=I.base;exact ⟨u.keep,u.slot,fun b o e n J=>nn _ (u.free b o e n J),u.there,fun b xs e=>B _ _ (u.tups b xs e) (by simp),fun b o v e=>B _ _ (u.frzs b o v e) (by simp),fun b ps e=>by
   obtain ⟨more,q⟩:=u.tbls b ps e;exact ⟨more,B _ _ q (by simp)⟩⟩
 ·obtain ⟨e,n,ne,O,d⟩:=I.pin p hp;exact ⟨e,nn _ n,ne,O,d⟩
 ·by_cases z:b=a
  ·subst z; rw [Q0z] at q; cases q
  ·rw [Q4n z] at q;exact (I.hok b u q).stay (fun _ _ _ r=>r) (fun c r=>B _ _ r (by simp)) fun c ts r=>B _ _ r (by simp)
variable {P:aN} {K:PySem.W.Frag} {mg:Str->Option aB} {base:Heap} {N:List Str} {qual:Str} {scope:Scope} {f:aA} {cd:aB} {A:aQ} {outer:List Env} {s:aC} {H:Hp} {E:XK}
section
variable {w:aL}
abbrev cxD (P:aN) (w:aL) (K:PySem.W.Frag) (mg:Str->Option aB) (base:Heap) (N:List Str) (qual:Str) (scope:Scope) (f:aA) (cd:aB) (A:aQ) (outer:List Env) (s:aC) (H:Hp) (E:XK):Cx:=Qd3 (CXD P w) P w K mg base N qual scope f cd A outer s H E
theorem Q8v {pins:List (aA × Obj)} {s1:aC} (I:Inv (cxD P w K mg base N qual scope f cd A outer s H E) pins σ H1 s1) {o:Obj} (e:s.heap.get? b=some o) (n:b∉frs outer):b∉frs (cxD P w K mg base N qual scope f cd A outer s H E).stack:=fun q=>by
 rcases D4.mp (I.stkSub b q) with z | z
 ·have h1:b < s.heap.objs.size:=O9 e;have h2:s.heap.objs.size<=(cxD P w K mg base N qual scope f cd A outer s H E).env.locals:=I.ok.above;rw [<- z] at h2;exact absurd (D3 h1 h2) (Nat.lt_irrefl _)
 ·exact n z
theorem Qjn (h:b∈frs outer):b∈frs (cxD P w K mg base N qual scope f cd A outer s H E).stack:=by
 show b∈frs (_ :: outer);unfold frs at h ⊢;rw [List.filterMap_cons]
 split
 ·exact h
 ·exact D1 _ h
theorem Qsh {pins:List (aA × Obj)} {s1:aC} {O:Heap} {e C t:aA} {dv:Option aA} (I:Inv (cxD P w K mg base N qual scope f cd A outer s H E) pins σ H1 s1)
  (hk:∀ b o,b≠e->s1.heap.get? b=some o->O.get? b=some o) (a3:∀ o,s1.heap.get? e=some o->∃ vs,o.data=.fields vs) (new:s.heap.get? e=none) (hH:H1 e=none)
  (oe:O.get? e=some { cls:=.ref C,dict:=dv,data:=.fields #[.ref t,.none,.none,.none,.bool false,.none] }) (hE:E (.ref C) dv H1) :
  (cxD P w K mg base N qual scope f cd A outer s H E).xe (.ref e) { s1 with heap:=O }:=by
 have Y:∀ en∈(cxD P w K mg base N qual scope f cd A outer s H E).stack,∀ b,en.frame=some b->b∈e :: frs (cxD P w K mg base N qual scope f cd A outer s H E).stack:=fun en he b B=>D1 _ (List.mem_filterMap.mpr ⟨en,he,B⟩)
 have ff:=PySem.W.funFrames_hide I.stack Y;have a2:∀ b o,s1.heap.get? b=some o->(∀ vs,o.data≠.fields vs)->b≠e:=fun b o q n z=>by
  subst z;obtain ⟨vs,d⟩:=a3 o q;exact n vs d
 have hid:(PySem.W.hideAll s1.heap (e :: frs (cxD P w K mg base N qual scope f cd A outer s H E).stack)).get? e=none:=PySem.W.hideAll_none _ D5;have kb:(PySem.W.hideAll s1.heap (e :: frs (cxD P w K mg base N qual scope f cd A outer s H E).stack)).StaysIn O:=fun b o q=>hk b o (fun z=>by rw [z,hid] at q; cases q) (PySem.W.of_hideAll _ q)
 show aI (aJ P w) _ (leaving _ (.ref e)) _ _ _;refine Qb6 (bs:=PySem.W.hideAll s1.heap (e :: frs (cxD P w K mg base N qual scope f cd A outer s H E).stack)) (a0:=.ref t) (s:={ s1 with heap:=O }) I.ok.frames (ff.of_keeps fun b o q n=>⟨o,hk b o (a2 b o q n) q,rfl⟩) rfl oe kb hid rfl rfl rfl fun h2 lf dd=>?_
 obtain ⟨k1,⟨_,_,k2⟩,k3,k4⟩:=lf;have noex:∀ b:aA,b∉(cxD P w K mg base N qual scope f cd A outer s H E).ex:=fun b z=>absurd (show b∈([]:List aA) from z) (by simp)
 have J:∀ b o,s.heap.get? b=some o->b≠e:=fun b o q z=>by rw [z,new] at q; cases q
 have G:∀ b o,s.heap.get? b=some o->b∉frs outer->b∉e :: frs (cxD P w K mg base N qual scope f cd A outer s H E).stack:=fun b o q n m=>by
  rcases D4.mp m with z | z
  ·exact J b o q z
  ·exact Q8v I q n z
 refine ⟨e,.ref C,.ref t,dv,H1,_,rfl,⟨I.os,I.bare,⟨k1,hid,k2,k3⟩,fun b u q=>?_,fun b o q n B=>?_,fun b o q B=>?_,fun b o q B=>?_,fun b o q n=>I.base.free b o q n (noex b),I.base.tups,I.base.frzs,I.base.tbls⟩,dd,hE⟩
 ·have ne:∀ c v,H1 c=some v->c∉e :: frs (cxD P w K mg base N qual scope f cd A outer s H E).stack:=fun c v z m=>by
   rcases D4.mp m with m | m
   ·rw [m,hH] at z; cases z
   ·rw [I.stkFree c m] at z; cases z
  refine (I.hok b u q).stay (fun c v hc r=>PySem.W.hideAll_get _ r ?_) (fun _ r=>r) fun _ _ r=>r
  rcases hc with rfl | hc
  ·exact ne c u q
  ·exact ne c _ hc
 ·exact PySem.W.hideAll_get _ (I.base.keep b o q n B (noex b)) (G b o q B)
 ·obtain ⟨o',z⟩:=I.base.there b o q (noex b);exact ⟨o',PySem.W.hideAll_get _ z (G b o q B)⟩
 ·obtain ⟨sl,z⟩:=I.base.slot b o q (I.ok.frf b B) B (noex b);obtain ⟨_,o',a5,Z⟩:=I.ok.funs.mem B;have U:s.heap.get? b=some o':=a5;rw [q] at U;cases U;obtain ⟨a4,z'⟩:=k4 b _ (hk b _ (J b o q) z) Z;exact ⟨a4,z'⟩
theorem Q0a:Ke (CXD P w) (cxD P w K mg base N qual scope f cd A outer s H E) E:=by
 intro pins σ H1 s1 e s' I h;obtain ⟨a,cls,a0,dv,H',B,rfl,F,dd,Z⟩:=h;show aI (aJ P w) _ (leaving _ (.ref a)) _ _ _;have noex:∀ b:aA,b∉(cxD P w K mg base N qual scope f cd A outer s H E).ex:=fun b z=>absurd (show b∈([]:List aA) from z) (by simp)
 refine Qb5 I.ok.frames rfl F.fl dd fun h2 x1 d2 x2=>?_
 refine ⟨a,cls,a0,dv,H',B,rfl,⟨F.os.trans I.os,F.bare,x1,F.hokB,fun b o q n G=>?_,fun b o q G=>?_,fun b o q G=>?_,fun b o q n=>?_,fun b xs q=>F.tups b xs (I.base.tups b xs q),fun b o u q=>F.frzs b o u (I.base.frzs b o u q),fun b ps q=>?_⟩,d2,Z⟩
 ·exact F.keep b o (I.base.keep b o q n G (noex b)) (I.base.free b o q n (noex b)) (Q8v I q G)
 ·obtain ⟨o',z⟩:=I.base.there b o q (noex b);exact F.there b o' z (Q8v I q G)
 ·obtain ⟨sl,z⟩:=I.base.slot b o q (I.ok.frf b G) G (noex b);obtain ⟨_,o',O,U⟩:=I.ok.funs.mem G;have J:s.heap.get? b=some o':=O;rw [q] at J;cases J;obtain ⟨a2,z'⟩:=F.slot b _ z (Qjn G);obtain ⟨Y,z2⟩:=x2 b _ z' U;exact ⟨Y,z2⟩
 ·obtain ⟨o',z⟩:=I.base.there b o q (noex b);exact F.free b o' z (I.base.free b o q n (noex b))
 ·obtain ⟨m1,e1⟩:=I.base.tbls b ps q;obtain ⟨m2,e2⟩:=F.tbls b _ e1;exact ⟨m1 ++ m2,by rw [e2,Array.append_assoc]⟩
end
variable {X:Cx}
def Q6u (X:Cx) (E:XK):Prop:=∀ (pins:List (aA × Obj)) (σ:St) (H0 H1:Hp) (s0 s1:aC) (hx:Heap) (e C t:aA) (dv:Option aA),Inv X pins σ H0 s0->s0.heap.get? e=none->Inv X pins σ H1 s1->(∀ b o,b≠e->s1.heap.get? b=some o->hx.get? b=some o) ->
 (∀ o,s1.heap.get? e=some o->∃ vs,o.data=.fields vs)->H1 e=none->hx.get? e=some { cls:=.ref C,dict:=dv,data:=.fields #[.ref t,.none,.none,.none,.bool false,.none] }->E (.ref C) dv H1->X.xe (.ref e) { s1 with heap:=hx }
theorem Qf9 {x:Str} {t:TA} {np cpos pos:Pos} (B:X.calm=true) (RO:Q6u X E) (hg:Gl X x) (Z:X.mg x=some (.ref C)) (q:PySem.W.excIn X.K C Uj "ValueError.__new__" = true) (ha:PA X [e] t)
  (U:(x == ("__debug__" : Str))=false:=by decide) (he:aO [e] X.env=[(false,aM e X.env)]:=by rfl):PS X (.Raise (some (.Call (.Name x np) [e] [] cpos)) none pos) (Qrh C E t):=by
 intro pins s σ H D I h;obtain ⟨tl,N,nm,qn,bs,hdct,sn,sub,ab,col,dd,k0,k1,k2,k3,k5,mN,hC,hN,Y,T⟩:=(Qdu I.mod.kin Z q).obj;refine wpAny_Raise_call_subU (C:=C) (nm:=nm) (q:=qn) (N:=N) (bs:=bs) (bm:=tl) (hdct:=hdct) (sn:=sn) (sub:=sub) (ab:=ab) (col:=col) (dd:=dd) (k0:=k0) (k1:=k1) (k2:=k2) (k3:=k3) (k5:=k5)
  PySem.F.excBase_ValueError (by decide +kernel) PySem.F.excBase_ValueError (mN:=mN) (T.hasType (by decide +kernel)) (I.ok.hd B) (by rw [he]; rfl) Y (Xu I hg Z ⟨rfl,?_⟩ U)
 have O:=ha cpos pins s σ H _ I h;rw [he] at O ⊢;refine Calls.evalArgs_plain (ae O (fun us s1 ⟨vs,H1,G,r,z,hE⟩=>?_) fun _ _ y=>y)
 refine ⟨rfl,by rw [<- r.length]; exact z,G.bk _ _ hC,hN.keeps G.bk,T.keeps G.bk,fun h' e' J=>?_⟩;obtain ⟨t,oe,_,_⟩:=J.there;exact RO pins σ H1 H1 s1 s1 h' e' C t none G J.new G (fun b o _ k=>J.keeps b o k) (fun o k=>by rw [J.new] at k; cases k) (G.hok.none_of J.new) oe hE
def Q4y (C:aA) (name:Str):Sp:=fun vs H Q _=>∃ (x:aA) (v:V),vs=[.ref x,v]/\H x=some (.ext (XO x C none))/\∀ dx,H dx=none->dx≠x->Q .non (upd (upd H x (.ext (XO x C (some dx)))) dx (.xd [(name,v)]))
def Qm6 (C:aA) (name:Str) (E:XK) (t:TA):TS:=fun _ σ H=>t σ H fun vs H1=>∃ v,vs=[v]/\∀ dx,H1 dx=none->E (.ref C) (some dx) (upd H1 dx (.xd [(name,v)]))
theorem Qf8 {x name:Str} {W:aA} {k:Nat} {e:aD} {t:TA} {np cpos pos:Pos} (U:X.calm=true) (RO:Q6u X E) (M:XMade X.K C W f) (G:FnOk X.prog X.w X.K X.mg X.base CX0 k f fd ps (Q4y C name)) (hr:Room (k + 1) X.A)
  (hb:Binds X.K fd ps []) (hg:Gl X x) (hm:X.mg x=some (.ref C)) (ha:PA X [e] t)
  (a2:(x == ("__debug__" : Str))=false:=by decide) (he:aO [e] X.env=[(false,aM e X.env)]:=by rfl):PS X (.Raise (some (.Call (.Name x np) [e] [] cpos)) none pos) (Qm6 C name E t):=by
 intro pins s σ H D I h;obtain ⟨nm,q,N,bs,sn,sub,ab,col,dd,k0,k1,k2,k3,k5,lk⟩:=M.lk;obtain ⟨of,lf,cf⟩:=M.ff;have oC:∀ {H':Hp} {s':aC},Inv X pins σ H' s'->s'.heap.get? C=some (excClassObj nm q C N bs (.ref W :: Uj) true sn sub ab col dd k0 k1 k2 k3 k5 "ValueError.__new__"):=fun J=>J.kIn _ _ lk
 rw [arm_exec_Raise];refine aF (wpAny_standAt (Q71 (kC:=C) (cn:=nm) (cq:=q) (kN:=N) (bas:=bs) (tl:=.ref W :: Uj) (hd:=true) (sns:=sn) (subs:=sub) (abb:=ab) (coll:=col) (dic:=dd) (j0:=k0) (j1:=k1) (j2:=k2) (j3:=k3) (j5:=k5) (newI := "ValueError.__new__") (by simp) (I.ok.hd U) ?_));refine aF (ae (wpAny_Call_Name_kw (Xu I hg hm (PySem.W.callWith_K (h₀:=X.base) (Q:=fun v s1=>∃ e t dv,v=.ref e/\s1.heap.get? C=some (excClassObj nm q C N bs (.ref W :: Uj) true sn sub ab col dd k0 k1 k2 k3 k5 "ValueError.__new__")/\s1.heap.get? e=some { cls:=.ref C,dict:=dv,data:=.fields #[.ref t,.none,.none,.none,.bool false,.none] }/\X.xe (.ref e) s1) I.ok.mod.kin M.kp (thn (ha cpos pins s σ H _ I h) fun us s1 ⟨vs,H1,O,r,v,ev,hE⟩=>⟨O.kIn,?_⟩) (by rw [he]; rfl) rfl) a2)) (fun v s3 z=>aF (wpAny_standAt (aR z))) fun _ _ z=>z)
 subst ev;obtain ⟨u,rfl,ru⟩:=r.one;obtain ⟨hp,gs,dr,tk,sy⟩:=s1;refine Qd5 (rest:=[u]) PySem.F.excBase_ValueError (by decide +kernel) PySem.F.excBase_ValueError (M.tail O.kIn) (oC O) O.kIn M.fi (O.kIn _ _ lf) cf (fun h' kp oe=>?_) (show 1<=sizeLine by decide);obtain ⟨a,ea⟩:∃ a,hp.objs.size + 1=a:=⟨_,rfl⟩;rw [ea] at oe ⊢;have la:hp.objs.size<=a:=by rw [<- ea]; exact Nat.le_succ _
 have na:H1 a=none:=O.hok.fresh la;have ga:hp.get? a=none:=Heap.get?_none_of_le la;have I2:Inv X pins σ (upd H1 a (.ext (XO a C none))) ⟨h',gs,dr,tk,sy⟩:=O.laid (t':=tk) (h':=h') kp la (Qh3 ⟨_,oe⟩);have sp:Q4y C name [.ref a,v] (upd H1 a (.ext (XO a C none))) (fun v' H'=>v'=.non/\∃ dx,H1 dx=none/\dx≠a/\H'=upd (upd (upd H1 a (.ext (XO a C none))) a (.ext (XO a C (some dx)))) dx (.xd [(name,v)])) E0:=
  ⟨a,v,rfl,Qj,fun dx hn B=>⟨rfl,dx,by rwa [Qb B] at hn,B,rfl⟩⟩
 have r2:Vals [V.ref a,v] [Value.ref a,u]:=.cons rfl (.cons ru .nil);have hl:([Value.ref a,u] ++ []).length=ps.length:=by
  have:=G.len _ _ _ _ sp;simpa using this
 refine wpAny_call (bG (G.run _ X.stack _ _ ⟨[Value.ref a,u],[]⟩ [Value.ref a,u] _ _ E0 (hr.make C [u] []) (I2.env0.make C [u] []) (hb _ [Value.ref a,u] I2.kIn hl) r2 sp) fun r s' z=>?_)
 cases r with
 | error e=>exact False.elim z
 | ok fl=>
  cases fl with
  | ret u'=>
   obtain ⟨v',H',I3,rv,ev,dx,hn,B,eH⟩:=I2.after z;subst ev;obtain rfl:u'=Value.none:=rv;have Y:H' a=some (.ext (XO a C (some dx))):=by rw [eH,Qb (Ne.symm B),Qj]
   obtain ⟨t2,o2⟩:=(I3.hok a _ Y).1;have eD:Q9q H' a=upd H1 dx (.xd [(name,v)]):=by
    funext b
    by_cases Z:b=a
    ·rw [Z,Q0z,Qb (Ne.symm B),na]
    ·rw [Q4n Z,eH]
     by_cases zd:b=dx
     ·rw [zd,Qj,Qj]
     ·rw [Qb zd,Qb zd,Qb Z,Qb Z]
   refine ⟨rfl,a,t2,some dx,rfl,oC I3,o2,?_⟩;have:=RO pins σ H1 (Q9q H' a) _ s' s'.heap a C t2 (some dx) O ga (I3.drop Y) (fun b o _ k=>k) (fun o k=>by rw [o2] at k; cases k; exact ⟨_,rfl⟩) Q0z o2 (by rw [eD]; exact hE dx hn);exact this
  | next=>exact False.elim z
  | brk=>exact False.elim z
  | cont=>exact False.elim z
theorem Qi1 {P:aN} {w:aL} {K:PySem.W.Frag} {mg:Str->Option aB} {base:Heap} {N:List Str} {qual:Str} {scope:Scope} {f:aA} {cd:aB} {A:aQ} {outer:List Env} {s:aC} {H:Hp} {E:XK} :
  Q6u (cxD P w K mg base N qual scope f cd A outer s H E) E:=fun pins σ H0 H1 s0 s1 hx e C t dv U O I Y B J Z G=>by
 refine Qsh I Y B ?_ J Z G;cases q:s.heap.get? e with
 | none=>rfl
 | some o=>
  obtain ⟨o',z⟩:=U.base.there e o q (fun z=>absurd (show e∈([]:List aA) from z) (by simp))
  rw [O] at z; cases z
theorem Fun.okD {P:aN} {w:aL} {mg:Str->Option aB} {base:Heap} {x:Str} {st:aK} {k:Nat} {sp:Sp} (F:Fun K x qual st f fd) (S:FnScope N ps (Q7 st)) (len:∀ vs H Q E,sp vs H Q E->vs.length=ps.length)
  (B:∀ (q:aB) (A:aQ) (outer:List Env) (s:aC) (H:Hp) (vs:List V) (Q:VK) (E:XK),Room k (A.deeper (envOfC qual (Q7 st) s.heap.objs.size f q))->sp vs H Q E ->
   ∃ t,PSs (cxD P w K mg base N qual (Q7 st) f q A outer s H E) (Yc st) t/\t { nx:=fun _ H'=>Q .non H',rt:=Q } (start N vs) H):FnOk P w K mg base (CXD P w) (k + 1) f fd ps sp:=by
 obtain ⟨oc,Z,kV,J,Y,an,q,ct,O,rfl,lk,I⟩:=F.ex;exact Qqy lk I S len fun A outer s H vs Q E U G=>B q A outer s H vs Q E U G
end L2
namespace L2
open PySem PySem.Spec PyProof.Rows PySem.W PySem.Builtin.Getset_descriptor
variable {tk:Tok}
def IsXD (x C:aA) (dv:Option aA) (h:Heap):Prop:=∃ ox vs,h.get? x=some ox/\ox.cls=.ref C/\ox.dict=dv/\ox.data=.fields vs/\vs[2]?=some .none
theorem IsXD.x {x C:aA} {dv:Option aA} {h:Heap} (I:IsXD x C dv h):IsX x C h:=let ⟨q,_,a,b,_⟩:=I; ⟨q,a,b⟩
theorem Qef {P:aN} {w:aL} {H:Hp} {h:Heap} {a C:aA} {dv:Option aA} (I:IsXD a C dv h):ObjOk P w H h a (.ext (IsXD a C dv)):=
 ⟨I,(let ⟨o,_,e,_⟩:=I; ⟨o,e⟩),fun h1 h2 ⟨o,vs,e,c⟩ k=>⟨o,vs,k o e,c⟩⟩
structure XGet (K:Frag) (C:aA) (name:Str):Prop where
 xc:XCls K C
 hd:∃ cd,clsIn K C=some cd/\cd.hasDict=true
 no:findIn K (.ref C) name=some none
variable {prog:aN} {A:aQ} {E:aB->aC->Prop} {g:Array GenState} {os:OsState} {K:Frag} {C dx:aA} {name:Str} {v:aB} {m:Str->Option aB}
section
variable {w:aL} {h:Heap} {d:Drawn} {t:Nat} {x:aA}
theorem Qkx {M:Model} (X:K.In h) (F:XGet K C name) (I:IsXD x C (some dx) h) (n:h.Ns1 dx m) (hv:m name=some v):Looks M h (Builtin.ObjectAttr.find (.ref x) (.ref C) name) (.value v):=by
 obtain ⟨ox,vs,e1,e2,e3,Y,_⟩:=I;obtain ⟨q,O,hl⟩:=Q86 n;obtain ⟨cd,U,hd⟩:=F.hd;have J:InstAt h x ox C (some q):=⟨e1,e2,by unfold notCls; rw [Y],by rw [e3]; exact O⟩;have G:=looks_findIn (M:=M) X F.no;have B:Looks M h (Builtin.ObjectAttr.getOf none) none:=.now;have L3:Looks M h (Builtin.ObjectAttr.dataDescriptor? none none) none:=.now;have Z:Looks M h (Builtin.ObjectAttr.inOwnDict name (.ref x)) (some v):=looks_own X J U (by unfold PySem.W.ownOf; rw [hd,bN rfl]; show lookIn name q=_; rw [hl,hv]);exact G.andThen (B.andThen (L3.andThen (Z.andThen (Looks.tag .now))))
theorem Qh4 {tk:Tok} {Q:Fin->aC->Prop} (X:K.In h) (F:XGet K C name) (I:IsXD x C (some dx) h) (n:h.Ns1 dx m) (J:m name=some v) (G:Q (.done (.ret v)) ⟨h,g,d,t,os⟩) :
  aI (aJ prog w) A (Builtin.«object.__getattribute__» ⟨[.ref x,.str name tk],[]⟩) Q E ⟨h,g,d,t,os⟩:=by
 have B:=I.x.type (M:=aJ prog w);have q:=Qkx (M:=aJ prog w) X F I n J;unfold Builtin.«object.__getattribute__»;refine aF (aR ?_);refine aF (aR ?_);refine aF (B.at (aF (q.at ?_)));exact aR G
theorem Qky {tk:Tok} {R:Result->aC->Prop} (X:K.In h) (F:XGet K C name) (I:IsXD x C (some dx) h) (n:h.Ns1 dx m) (B:m name=some v) (q:R (.ok (.ret v)) ⟨h,g,d,t,os⟩) :
  codeAny (aJ prog w) A (.call (.builtin "BaseException.__getattribute__") ⟨[.ref x,.str name tk],[]⟩) R ⟨h,g,d,t,os⟩:=
 codeAny_call_builtin PySem.F.attr_ValueError.ga.plain PySem.F.entry_bexc_ga (Qa0 X F.xc I.x (Qh4 X F I n B q))
theorem Qkz {q:Bool} {Q:aB->aC->Prop} (X:K.In h) (F:XGet K C name) (I:IsXD x C (some dx) h) (n:h.Ns1 dx m) (hv:m name=some v) (hh:handedIn v=true) (Z:Q v ⟨h,g,d,t + 1,os⟩):aI (aJ prog w) A (getAttr (.ref x) name q) Q E ⟨h,g,d,t,os⟩:=by
 have O:=I.x.type (M:=aJ prog w);have J:=looks_findIn (M:=aJ prog w) X F.xc.ga;have G:=looks_findIn (M:=aJ prog w) X F.xc.gt;have B:(Value.builtin "BaseException.__getattribute__" == Value.builtin "object.__getattribute__")=false:=by decide +kernel
 have a2:(onTheHeap (Value.ref C) && Value.builtin "BaseException.__getattribute__" == Value.builtin "object.__getattribute__")=false:=by rw [B]; rfl
 have Y:(q && onTheHeap (Value.builtin "BaseException.__getattribute__"))=false:=by rw [show onTheHeap (Value.builtin "BaseException.__getattribute__")=false from rfl,Bool.and_false]
 have f3:=PySem.F.attr_ValueError.ga.bind (.ref x);have U:=handedOut_of hh;unfold getAttr getAttrBy;refine aF (wpAny_mkText (av (aF (O.at (aF (J.at ?_))))))
 repeat (any_goals (first | assumption | with_reducible refine G.at ?_ | wp_step))
 refine Qky X F I n hv ?_;dsimp only;rw [U];exact aR Z
end
variable {X:Cx}
def tXF (K:Frag) (name:Str) (ta:TE):TE:=fun σ H Q=>ta σ H fun v H1=>∃ (a C dx:aA) (i:Int) (fs:List (Str × V)),v=.ref a/\H1 a=some (.ext (IsXD a C (some dx)))/\H1 dx=some (.xd fs)/\fs.lookup name=some (.int i)/\XGet K C name/\Q (.int i) H1
theorem Qnj {e:aD} {ta:TE} {pos:Pos} (K:Frag) (Y:PE X e ta) (hb:ak e name X.env (aM e X.env)=aM e X.env:=by rfl) (hK:X.K=K:=by rfl):PE X (.Attribute e name pos) (tXF K name ta):=by
 subst hK;intro pins s σ H Q I h;refine Qep hb (thn (Y pins s σ H _ I h) fun u s1 ⟨v,H1,J,U,a,C,dx,i,fs,ev,Z,hd,hl,G,q⟩=>?_)
 subst ev;obtain rfl:u=Value.ref a:=U;obtain ⟨mA,n,r⟩:=J.hok dx _ hd;have B:=r name;rw [hl] at B;cases O:mA name with
 | none=>rw [O] at B; exact False.elim B
 | some y=>
  rw [O] at B;obtain ⟨tk,rfl⟩:∃ tk,y=.int i tk:=B;obtain ⟨hp,gs,dr,a2,sy⟩:=s1;exact Qkz J.kIn G (J.hok a _ Z).1 n O rfl ⟨.int i,H1,J.tok _,⟨_,rfl⟩,q⟩
variable {pins:List (aA × Obj)} {σ:St} {H H':Hp} {s s':aC} {a:aA}
theorem Qpr {cn n:Str} {i:Nat} {CC:aA} {a0:aB} {B:Heap} {dv:Option aA} {np a6:Pos} {Z:aK} {suite:List aK} {ts:TS} {D:Ends} (hN:X.N.Nodup) (hi:X.N[i]?=some n) (hk:X.env.scope.names.lookup n=some .local) (c4:∀ b,b∉X.ex)
  (b4:X.stack=X.env :: X.outer) (c6:X.env.frame=some X.env.locals) (hg:Gl X cn) (hm:X.mg cn=some (.ref CC)) (hx:exmOne X.K (.ref C) (.ref CC)=some true) (I:Inv X pins σ H s) (F:Fly X.prog X.w X.stack H H' s s' a (.ref C) a0 B) (dd:∃ o',s'.heap.get? a=some o'/\o'.dict=dv/\zm o'=some .none)
  (O:PSs (Us X a) (Z :: suite) ts) (q:ts { nx:=fun b6 H2=>D.nx (b6.set i none) H2,rt:=fun _ _=>False } (σ.set i (some (.ref a))) (upd H' a (.ext (IsXD a C dv)))) (b9:(cn == ("__debug__" : Str))=false:=by decide) :
  aI (aJ X.prog X.w) X.A (noteFrame (.ref a) X.env) (fun _ a8=>aI (aJ X.prog X.w) X.A (setFlight (.ref a) none) (fun _ a9=>aI (aJ X.prog X.w) X.A (handleBy (.ref a) X.env [.ExceptHandler (some (.Name cn np)) (some n) (Z :: suite) a6]) (SP X pins D) X.xe a9) X.xe a8) X.xe s':=by
 have b2:(X.env.scope.kind == .class || (X.env.scope.kind == .module && X.env.locals != X.env.globals))=false:=by rw [I.ok.kind]; rfl
 have b1:=F.fl;rw [b4] at b1;refine Q85 (by rw [<- b4]; exact I.ok.frames) c6 b1 dd fun h4 G d4 a4=>?_
 refine jf (s:={ s' with heap:=h4 }) G.1 G.2.1 G.2.2.1 G.2.2.2 d4 fun h5 J d5 a5=>?_
 obtain ⟨n1,n2⟩:=F.new;have I5:Inv X pins σ H' { s' with heap:=h5 }:=F.inv I J.1 (a4.trans a5);obtain ⟨ob,c1,a7⟩:=J.there;have LT:Looks (aJ X.prog X.w) h5 (typeOf (.ref a)) (.ref C):=IsX.type ⟨ob,c1,a7⟩;refine wpAny_handleBy_cons (codeAny_handlers_test (Xu (X:=Us X a) (I5.suite a) hg hm ?_ b9)) (by intro z; cases z);refine (exm_one (h:=h5) I5.kIn LT hx).at ?_;refine codeAny_handlers_suite_as ?_;refine jf (s:={ s' with heap:=h5 }) J.1 J.2.1 J.2.2.1 J.2.2.2.at d5 fun h6 b5 d6 c2=>?_
 have I6:Inv X pins σ H' { s' with heap:=h6 }:=F.inv I b5.1 ((a4.trans a5).trans c2);obtain ⟨c5,c0,Y,a2,U,_⟩:=b5.first;obtain ⟨o',b0,b7,a3⟩:=d6;rw [Y] at b0;cases b0;have I7:Inv X pins σ (upd H' a (.ext (IsXD a C dv))) { s' with heap:=h6 }:=Inv.track I c4 n1 I6 n2 (Qef ⟨c5,c0,Y,a2,b7,U,by unfold zm at a3; rw [U] at a3; exact a3⟩);refine Q1x (X:=Us X a) (v:=.ref a) (I7.suite a) hN hi (.inl hk) rfl (fun s8 I8=>?_) (.inr hk);refine ae (O pins s8 _ _ _ I8 q) (fun f s9 h9=>?_) fun _ _ z=>z.elim
 cases f with
 | next=>
  obtain ⟨c7,H9,I9,q9⟩:=h9;have b3:=I9.unsuite I.ok;obtain ⟨m,hn,hl⟩:=id b3.loc;exact wpAny_nameGoes_keeps hk hn b2 fun c8 v b8 c3=>⟨_,_,b3.forget hN hi hl b8 c3,q9⟩
 | brk=>obtain ⟨_,_,_,z⟩:=h9; exact z.elim
 | cont=>obtain ⟨_,_,_,z⟩:=h9; exact z.elim
 | ret u=>obtain ⟨_,_,_,_,_,z⟩:=h9; exact z.elim
end L2
namespace L2
open PySem PySem.Spec PyProof.Rows
variable {X:Cx}
theorem Qek {CX:CXT} {f:aA} {fd:aP} {k:Nat} {ps:List Str} {sp:Sp} {g:Str} {p cpos:Pos} {e:aD} {es:List aD} {ta:TA} {pins:List (aA × Obj)} {σ:St} {H:Hp} {s:aC} {E1:aB->aC->Prop} {Qv:VK} {Y:XK}
  (F:FnOk X.prog X.w X.K X.mg X.base CX k f fd ps sp) (hr:Room k X.A) (hm:X.mg g=some (.ref f)) (Z:PySem.W.keepIn X.K (.ref f)=true) (hb:Binds X.K fd ps []) (ha:PA X.nox (e :: es) ta) (hg:Gl X g)
  (I:Inv X pins σ H s) (h:ta σ H fun vs H1=>sp vs H1 Qv Y) (hE:∀ H1 s1 v s',Inv X pins σ H1 s1->CX X.stack H1 s1 Y v s'->E1 v s')
  (U:(g == ("__debug__" : Str))=false) (he:aO (e :: es) X.env=(false,aM e X.env) :: aO es X.env) (O:(aU cpos (aO es X.env)).any (·.1)=false) :
  aI (aJ X.prog X.w) X.A (aM (.Call (.Name g p) (e :: es) [] cpos) X.env) (EP X pins σ Qv) E1 s:=by
 refine wpAny_Call_Name_kw (Xu I hg hm ?_ U);refine PySem.W.callWith_K (h₀:=X.base) I.ok.mod.kin Z (ae (ha cpos pins s σ H _ (I.wish _) h) (fun us s1 ⟨vs,H1,I1,r,q⟩=>⟨I1.unwish.kIn,?_⟩) fun _ _ z=>z.elim) he O
 have B:=I1.unwish;have hl:us.length=ps.length:=by rw [<- r.length]; exact F.len _ _ _ _ q
 have G:=hb s1 us B.kIn (by rw [G6]; exact hl);rw [G6] at G;refine wpAny_call (bG (F.run X.A X.stack s1 H1 ⟨us,[]⟩ us vs Qv Y hr B.env0 G r q) fun rr s' J=>?_)
 cases rr with
 | error v=>exact hE H1 s1 v s' B J
 | ok fl=>
  cases fl with
  | ret u=>exact B.after J
  | next=>exact False.elim J
  | brk=>exact False.elim J
  | cont=>exact False.elim J
theorem Y9 (K:PySem.W.Frag) (Y:X.K=K:=by rfl):K1 X (.builtin "isinstance") (fun xs H Q=>∃ (a C:aA) (dv:Option aA) (c:V) (B:aB) (b:Bool),xs=[.ref a,c]/\Qub c=some B/\H a=some (.ext (IsXD a C dv))/\XCls K C/\PySem.W.kitOne K (.ref C) B=some b/\Q (.bl b) H):=by
 subst Y;intro pins s σ H xs us Q I r h;obtain ⟨a,C,dv,c,B,b,rfl,J,O,F,e,q⟩:=h;obtain ⟨u,Z,rfl,U,G⟩:=Qdc r;cases U;rw [Qbj J G];exact PySem.W.kia_one (Qjb F) I.kIn (I.hok a _ O).1.x e (fun z=>nomatch z) fun tk=>⟨.bl b,H,I.tok tk,rfl,q⟩
end L2
namespace L2
open PySem PySem.Spec PyProof.Rows PySem.W PySem.Builtin.Getset_descriptor
variable {CC:aA} {ts:TS}
variable {X:Cx} {pins:List (aA × Obj)} {σ:St} {H H':Hp} {s s':aC} {a C:aA}
theorem Qpq {cn n:Str} {i:Nat} {CC:aA} {a0:aB} {B:Heap} {dv:Option aA} {np b0:Pos} {a2:aK} {suite:List aK} {ts:TS} {D:Ends} (hN:X.N.Nodup) (hi:X.N[i]?=some n) (hk:X.env.scope.names.lookup n=some .local) (c6:∀ b,b∉X.ex)
  (b6:X.stack=X.env :: X.outer) (c8:X.env.frame=some X.env.locals) (hg:Gl X cn) (hm:X.mg cn=some (.ref CC)) (hx:exmOne X.K (.ref C) (.ref CC)=some true) (I:Inv X pins σ H s) (F:Fly X.prog X.w X.stack H H' s s' a (.ref C) a0 B) (dd:∃ o',s'.heap.get? a=some o'/\o'.dict=dv/\zm o'=some .none)
  (U:PSs (Us X a) (a2 :: suite) ts) (q:ts { nx:=fun b9 H2=>D.nx (b9.set i none) H2,rt:=D.rt } (σ.set i (some (.ref a))) (upd H' a (.ext (IsXD a C dv)))) (c1:(cn == ("__debug__" : Str))=false:=by decide) :
  aI (aJ X.prog X.w) X.A (noteFrame (.ref a) X.env) (fun _ b2=>aI (aJ X.prog X.w) X.A (setFlight (.ref a) none) (fun _ b3=>aI (aJ X.prog X.w) X.A (handleBy (.ref a) X.env [.ExceptHandler (some (.Name cn np)) (some n) (a2 :: suite) b0]) (SP X pins D) X.xe b3) X.xe b2) X.xe s':=by
 have a3:(X.env.scope.kind == .class || (X.env.scope.kind == .module && X.env.locals != X.env.globals))=false:=by rw [I.ok.kind]; rfl
 have b5:=F.fl;rw [b6] at b5;refine Q85 (by rw [<- b6]; exact I.ok.frames) c8 b5 dd fun h4 G d4 a8=>?_
 refine jf (s:={ s' with heap:=h4 }) G.1 G.2.1 G.2.2.1 G.2.2.2 d4 fun h5 J d5 a9=>?_
 obtain ⟨n1,n2⟩:=F.new;have I5:Inv X pins σ H' { s' with heap:=h5 }:=F.inv I J.1 (a8.trans a9);obtain ⟨ob,c3,b1⟩:=J.there;have LT:Looks (aJ X.prog X.w) h5 (typeOf (.ref a)) (.ref C):=IsX.type ⟨ob,c3,b1⟩;refine wpAny_handleBy_cons (codeAny_handlers_test (Xu (X:=Us X a) (I5.suite a) hg hm ?_ c1)) (by intro z; cases z);refine (exm_one (h:=h5) I5.kIn LT hx).at ?_;refine codeAny_handlers_suite_as ?_;refine jf (s:={ s' with heap:=h5 }) J.1 J.2.1 J.2.2.1 J.2.2.2.at d5 fun h6 b7 d6 c4=>?_
 have I6:Inv X pins σ H' { s' with heap:=h6 }:=F.inv I b7.1 ((a8.trans a9).trans c4);obtain ⟨c7,c2,Z,a5,Y,_⟩:=b7.first;obtain ⟨o',b4,c0,a6⟩:=d6;rw [Z] at b4;cases b4;have I7:Inv X pins σ (upd H' a (.ext (IsXD a C dv))) { s' with heap:=h6 }:=Inv.track I c6 n1 I6 n2 (Qef ⟨c7,c2,Z,a5,c0,Y,by unfold zm at a6; rw [Y] at a6; exact a6⟩);refine Q1x (X:=Us X a) (v:=.ref a) (I7.suite a) hN hi (.inl hk) rfl (fun s8 I8=>?_) (.inr hk);refine ae (U pins s8 _ _ _ I8 q) (fun f s9 h9=>?_) fun _ _ z=>z.elim
 cases f with
 | next=>
  obtain ⟨b8,H9,I9,q9⟩:=h9;have O:=I9.unsuite I.ok;obtain ⟨m,hn,hl⟩:=id O.loc;exact wpAny_nameGoes_keeps hk hn a3 fun c5 v a4 a7=>⟨_,_,O.forget hN hi hl a4 a7,q9⟩
 | brk=>obtain ⟨_,_,_,z⟩:=h9; exact z.elim
 | cont=>obtain ⟨_,_,_,z⟩:=h9; exact z.elim
 | ret u=>
  obtain ⟨v9,b8,H9,I9,r9,q9⟩:=h9;have O:=I9.unsuite I.ok;obtain ⟨m,hn,hl⟩:=id O.loc;exact wpAny_nameGoes_keeps hk hn a3 fun c5 v a4 a7=>⟨v9,_,_,O.forget hN hi hl a4 a7,r9,q9⟩
def Qv8 (sp:Sp) (ta:TA) (i:Nat) (ok:aB->aA->Prop) (ts:TS) (set:V->St->St):TS:=fun D σ H=>ta σ H fun vs H1=>sp vs H1 (fun v H2=>D.nx (set v σ) H2)
 (fun c dv H2=>∃ C,c=.ref C/\ok c C/\∀ a,H2 a=none->ts { nx:=fun σ3 H3=>D.nx (σ3.set i none) H3,rt:=D.rt } (σ.set i (some (.ref a))) (upd H2 a (.ext (IsXD a C dv))))
theorem Qi9 {f:aA} {fd:aP} {k:Nat} {ps:List Str} {sp:Sp} {g cn n:Str} {i:Nat} {CC:aA} {p cpos O np U pos:Pos} {e:aD} {es:List aD} {ta:TA} {J:aK} {suite:List aK} {ts:TS}
  (F:FnOk X.prog X.w X.K X.mg X.base (CXD X.prog X.w) k f fd ps sp) (hr:Room k X.A) (hm:X.mg g=some (.ref f)) (a8:PySem.W.keepIn X.K (.ref f)=true) (hb:Binds X.K fd ps []) (ha:PA X.nox (e :: es) ta)
  (hN:X.N.Nodup) (hi:X.N[i]?=some n) (hk:X.env.scope.names.lookup n=some .local) (G:∀ a,PSs (Us X a) (J :: suite) ts) (a2:X.mg cn=some (.ref CC))
  (hg:Gl X g:=by rfl) (a4:Gl X cn:=by rfl) (a5:∀ b,b∉X.ex:=by intro b z; exact absurd (show b∈([]:List aA) from z) (by simp)) (a7:X.stack=X.env :: X.outer:=by rfl) (a6:X.env.frame=some X.env.locals:=by rfl)
  (a3:(g == ("__debug__" : Str))=false:=by decide) (Y:(cn == ("__debug__" : Str))=false:=by decide) (he:aO (e :: es) X.env=(false,aM e X.env) :: aO es X.env:=by rfl) (Z:(aU cpos (aO es X.env)).any (·.1)=false:=by rfl)
  (a9:swapsWith (.Call (.Name g p) (e :: es) [] cpos) none O.line X.env=pure false:=by rfl) :
  PS X (.Try [.Expr (.Call (.Name g p) (e :: es) [] cpos) O] [.ExceptHandler (some (.Name cn np)) (some n) (J :: suite) U] [] [] pos) (Qv8 sp ta i (fun c _=>PySem.W.exmOne X.K c (.ref CC)=some true) ts (fun _ σ=>σ)):=by
 intro pins s σ H D I h;refine wpAny_Try_except (wpAny_execs_cons (wpAny_Expr_any (thn (Qek F hr hm a8 hb ha hg I h ?_ a3 he Z) fun v s1 ⟨x,H1,I1,r1,q1⟩=>wpAny_execs_nil (wpAny_execs_nil ⟨σ,H1,I1,q1⟩)) I.quiet a9))
 intro H1 s1 v s' I1 hx;obtain ⟨a,cls,a0,dv,H',B,rfl,Fl,dd,C,rfl,hok,q⟩:=hx;exact Qpq hN hi hk a5 a7 a6 a4 a2 hok I1 Fl dd (G a) (q a Fl.new.2) Y
end L2
namespace L2
open PySem PySem.Spec PyProof.Rows
end L2
namespace L2
open PySem PySem.Spec PyProof.Rows PySem.W PySem.Builtin.Getset_descriptor
end L2
namespace L2
open PySem PySem.Spec PyProof.Rows PySem.SeqAt
variable {e:aD}
variable {X:Cx}
theorem Qu9 {bs:List Bool} {its:List aB} (r:Vals (bs.map V.bl) its):its.countP (isBoolOf true)=bs.countP id:=by
 induction bs generalizing its with
 | nil=>cases r; rfl
 | cons b bs q=>
  cases r with
  | cons a r=>
   cases a;rw [List.countP_cons,List.countP_cons,q r];cases b <;> rfl
theorem eqB {bs:List Bool} {its:List aB} (r:Vals (bs.map V.bl) its):∀ y,y∈its->∀ (A:aQ) (s:aC),EqAt A s y (.bool true) (isBoolOf true y):=by
 induction bs generalizing its with
 | nil=>cases r; intro y q; exact absurd q (by simp)
 | cons b bs B=>
  cases r with
  | cons a r=>
   cases a;intro y q A s;rcases D4.mp q with G | q
   ·rw [G]; exact EqAt.bool_bool b true
   ·exact B r y q A s
def Qn5:V->List V->Hp->VK->Prop:=fun x vs H Q=>∃ (l:aA) (bs:List Bool),x=.ref l/\vs=[.bl true]/\H l=some (.lst (bs.map V.bl))/\Q (.int (bs.countP id:Nat)) H
theorem Qfs:MtR X "list.count" Qn5:=by
 intro pins s σ H x vs v us Q I B U h;obtain ⟨l,bs,rfl,rfl,G,q⟩:=h;cases B;obtain ⟨u,rfl,J⟩:=U.one;obtain rfl:u=Value.bool true:=J;obtain ⟨z,its,n,r,hl,e⟩:=I.lstM G;refine au PySem.F.slot_list_count ⟨_,e,rfl⟩ PySem.F.entry_list_count (PySem.F.args_list_count_2 _ _) (list_countAt l its.toArray n none #[] (.bool true) (isBoolOf true)) ⟨e,fun y O=>eqB r y (by simpa using O) _ _,?_⟩;rw [show its.toArray.toList=its from rfl,Qu9 r];exact ⟨.int _,H,I.tok _,⟨_,rfl⟩,q⟩
def Qn3:V->List V->Hp->VK->Prop:=fun x vs H Q=>∃ (l:aA) (bs:List Bool) (j:Nat),x=.ref l/\vs=[.bl true]/\H l=some (.lst (bs.map V.bl))/\bs.length<=1000/\bs[j]?=some true/\(∀ m,m < j->bs[m]?=some false)/\Q (.int (j:Nat)) H
theorem Qfq:MtR X "list.index" Qn3:=by
 intro pins s σ H x vs v us Q I Z rv h;obtain ⟨l,bs,j,rfl,rfl,hH,hz,Y,G,q⟩:=h;cases Z;obtain ⟨u,rfl,O⟩:=rv.one;obtain rfl:u=Value.bool true:=O;obtain ⟨z,its,n,r,hl,e⟩:=I.lstM hH;rw [O2] at hl;have lj:j < bs.length:=(O0.mp Y).1;have B:∀ m (U:m < its.toArray.size) b,bs[m]?=some b->its.toArray[m]=Value.bool b:=fun m U b hb=>by
  obtain ⟨u,hu,O⟩:=r.get (show (bs.map V.bl)[m]?=some (V.bl b) by rw [E5,hb]; rfl);obtain rfl:u=Value.bool b:=O;have:its.toArray[m]?=some (Value.bool b):=by simpa using hu
  exact (Array.getElem?_eq_some_iff.mp this).2
 refine au PySem.F.slot_list_index ⟨_,e,rfl⟩ PySem.F.entry_list_index (PySem.F.args_list_index_2 _ _)
  (list_indexAt l its.toArray n none #[] (.bool true) (isBoolOf true) j (by rw [O4,<- hl]; exact lj) (by omega) ?_ ?_) ⟨e,fun y hy=>eqB r y (by simpa using hy) _ _,⟨.int _,H,I.tok _,⟨_,rfl⟩,q⟩⟩
 ·rw [B j _ true Y]; rfl
 ·intro m U J;rw [B m U false (G m J)]; rfl
def Qrf (sp:Sp) (ta:TA) (i:Nat) (ok:aB->aA->Prop) (ts:aA->TS) (set:V->St->St):TS:=fun D σ H=>ta σ H fun vs H1=>sp vs H1 (fun v H2=>D.nx (set v σ) H2)
 (fun c dv H2=>∃ C,c=.ref C/\ok c C/\∀ a,H2 a=none->ts a { nx:=fun σ3 H3=>D.nx (σ3.set i none) H3,rt:=fun _ _=>False } (σ.set i (some (.ref a))) (upd H2 a (.ext (IsXD a C dv))))
theorem Qf7 {f:aA} {fd:aP} {k:Nat} {ps:List Str} {sp:Sp} {g cn n:Str} {i:Nat} {CC:aA} {p cpos O np U pos:Pos} {e:aD} {es:List aD} {ta:TA} {J:aK} {suite:List aK} {ts:aA->TS}
  (F:FnOk X.prog X.w X.K X.mg X.base (CXD X.prog X.w) k f fd ps sp) (hr:Room k X.A) (hm:X.mg g=some (.ref f)) (a8:PySem.W.keepIn X.K (.ref f)=true) (hb:Binds X.K fd ps []) (ha:PA X.nox (e :: es) ta)
  (hN:X.N.Nodup) (hi:X.N[i]?=some n) (hk:X.env.scope.names.lookup n=some .local) (G:∀ a,PSs (Us X a) (J :: suite) (ts a)) (a2:X.mg cn=some (.ref CC))
  (hg:Gl X g:=by rfl) (a4:Gl X cn:=by rfl) (a5:∀ b,b∉X.ex:=by intro b z; exact absurd (show b∈([]:List aA) from z) (by simp)) (a7:X.stack=X.env :: X.outer:=by rfl) (a6:X.env.frame=some X.env.locals:=by rfl)
  (a3:(g == ("__debug__" : Str))=false:=by decide) (Y:(cn == ("__debug__" : Str))=false:=by decide) (he:aO (e :: es) X.env=(false,aM e X.env) :: aO es X.env:=by rfl) (Z:(aU cpos (aO es X.env)).any (·.1)=false:=by rfl)
  (a9:swapsWith (.Call (.Name g p) (e :: es) [] cpos) none O.line X.env=pure false:=by rfl) :
  PS X (.Try [.Expr (.Call (.Name g p) (e :: es) [] cpos) O] [.ExceptHandler (some (.Name cn np)) (some n) (J :: suite) U] [] [] pos) (Qrf sp ta i (fun c _=>PySem.W.exmOne X.K c (.ref CC)=some true) ts (fun _ σ=>σ)):=by
 intro pins s σ H D I h;refine wpAny_Try_except (wpAny_execs_cons (wpAny_Expr_any (thn (Qek F hr hm a8 hb ha hg I h ?_ a3 he Z) fun v s1 ⟨x,H1,I1,r1,q1⟩=>wpAny_execs_nil (wpAny_execs_nil ⟨σ,H1,I1,q1⟩)) I.quiet a9))
 intro H1 s1 v s' I1 hx;obtain ⟨a,cls,a0,dv,H',B,rfl,Fl,dd,C,rfl,hok,q⟩:=hx;exact Qpr hN hi hk a5 a7 a6 a4 a2 hok I1 Fl dd (G a) (q a Fl.new.2) Y
def Qrj (val:Str->V) (te:TE):TE:=fun σ H Q=>te σ H fun y H1=>∃ w,y=.str w/\Q (val w) H1
theorem Qai {n:Str} {a:aA} {o:Obj} {es:Array DictEntry} {U:Nat} {val:Str->V} {e:aD} {te:TE} {p apos cpos:Pos} (hg:Gl X n) (hm:X.mg n=some (.ref a)) (lk:X.K.lookup a=some o) (ty:o.cls=.type "dict") (Y:o.ExactDict) (od:o.data=.dict es U) (Z:KeysOf (Qx X.prog X.w) es) (hs:(a == ai)=false)
  (hv:∀ w,RelV (val w) ((findBy (Qx X.prog X.w).is es (.inr w)).getD .none)) (he:PE X e te) (G:(n == ("__debug__" : Str))=false:=by decide)
  (base:ak (.Name n p) "get" X.env (aM (.Name n p) X.env)=aM (.Name n p) X.env:=by rfl)
  (few:((aU cpos (aO [e] X.env)).all (fun x=>!x.1) && (backToKw cpos (keywordEach [] X.env)).all (fun x=>x.1.isSome)
   && decide (([e]:List aD).length + ([]:List Keyword).length + (if ([]:List Keyword).isEmpty then 0 else 1) < 30))=true:=by rfl)
  (line:(apos.endLine == cpos.line)=true:=by rfl) (trees:aU cpos (aO [e] X.env)=[(false,aM e X.env)]:=by rfl) :
  PE X (.Call (.Attribute (.Name n p) "get" apos) [e] [] cpos) (Qrj val te):=by
 intro pins s σ H Q I h;have B:∀ {H':Hp} {s':aC},Inv X pins σ H' s'->s'.heap.get? a=some o:=fun J=>J.kIn _ _ lk
 refine wpAny_Call_method base few line PySem.F.plainAttrs_dict PySem.F.slot_dict_get PySem.F.type_dict_get (Xu I hg hm ?_ G);refine ⟨⟨o,B I,ty⟩,fun b z=>⟨o,?_,?_⟩,?_⟩
 ·cases z; exact B I
 ·exact Y.2.1
 ·rw [trees];refine Calls.callWith_builtin rfl (Calls.evalArgs_plain (Calls.spliced_cons (thn (he pins s σ H _ I h) fun iv s2 ⟨y,H2,O,ry,w,ey,q⟩=>Calls.spliced_nil ?_)))
  subst ey;obtain ⟨tk,rfl⟩:∃ tk,iv=.str w tk:=ry;have mo:s2.heap.MapOf (Qx X.prog X.w) a (fun k=>findBy (Qx X.prog X.w).is es k):=⟨o,es,U,B O,Y,od,Z,fun _=>rfl⟩
  refine call_meetsIn PySem.F.slot_dict_get ⟨o,B O,ty⟩ PySem.F.entry_dict_get (PySem.F.args_dict_get_2 _ _) (meets_dict_get (Qx X.prog X.w) a (k:=.inr w) (by simp [Qx,Kg,Value.isStrOf]) hs) ⟨_,mo,⟨val w,H2,O.tok _,hv w,q⟩⟩
end L2
namespace L2
open PySem PySem.Spec PyProof.Rows
variable {tt:TT} {wi:TI} {g:TG} {te:TE} {y:V} {u:aB} {Q:aB->aC->Prop} {h':Heap}
variable {X:Cx}
def Qi2 (K:PySem.W.Frag):R2:=fun x y H Q=>∃ a b ys,x=.ref a/\y=.ref b/\SqT K H a []/\SqT K H b ys/\Q (.ref b) H
theorem Qiw:OpR X (aW .Add) (Qi2 X.K):=by
 intro pins s σ H x y v u Q I U Y h;obtain ⟨a,b,ys,rfl,rfl,Z,hb,q⟩:=h;cases U;cases Y;obtain ⟨its,r1,p1,_⟩:=I.tuple Z;obtain ⟨B,r2,p2,_⟩:=I.tuple hb;have e1:its=[]:=r1.nil_iff.mpr rfl;subst e1;obtain ⟨⟨cls,dd,data,sl⟩,ho,hc,n,hd⟩:=id p1;obtain ⟨⟨O,G,data2,J⟩,ho2,hc2,n2,hd2⟩:=id p2;simp only at hc hd hc2 hd2;subst hc hd hc2 hd2;exact concat_meets ⟨_,ho,rfl⟩ ⟨_,ho2,rfl⟩ noFill_tuple_add seq_tuple_add PySem.F.slot_tuple_add PySem.F.entry_tuple_add (PySem.F.args_tuple_add_2 _ _)
  (tuple_addW0 a b ([]:List aB).toArray B.toArray n n2 dd G sl J (by simp)) ⟨ho,ho2,⟨.ref b,H,I,rfl,q⟩⟩
abbrev Qvy (K:PySem.W.Frag):R2:=fun x y H Q=>Qqm K x y H Q\/Qi2 K x y H Q
theorem Qnw:OpR X (aW .Add) (Qvy X.K):=op_catT.or Qiw
def PTs (X:Cx) (ifs:List aD) (t:TT):Prop:=
 ∀ (pins:List (aA × Obj)) (s:aC) (σ:St) (H:Hp) (Q:Bool->Hp->Prop),Inv X pins σ H s->t σ H Q ->
  aI (aJ X.prog X.w) X.A (forIn ifs true fun c r=>if r=true then do let ok <- isTrue c X.env (aM c X.env); pure (ForInStep.yield ok) else pure (ForInStep.yield r)) (TP X pins σ Q) X.xe s
def Qv9:TT:=fun _ H Q=>Q true H
theorem Qna :PTs X [] Qv9:=fun _ _ _ H _ I h=>wpAny_tests_nil ⟨H,I,h⟩
theorem Qn9 {c:aD} {t:TT} (h:PT X c t):PTs X [c] t:=fun pins s σ H Q I q=>wpAny_tests_one (h pins s σ H Q I q)
def Q8f (J:It) (cap:List (Option Nat)) (g:TG) (tt:TT) (te:TE) (σ:St) (H1:Hp) (Q:VK):Prop:=∀ acc,H1 acc=none ->
 ∃ W:Nat->Nat->List V->St->Hp->Prop,(∃ m,W 0 m [] (Q2i cap σ) (upd H1 acc (.lst [])))/\∀ i m ys σ' H',W i m ys σ' H'->H' acc=some (.lst ys) /\
  ((J.stop i H'/\Q (.ref acc) H')\/(J.go i H'/\ys.length < sizeLine/\∀ x H2,J.yld i H' x H2->g x σ' H2 fun σ3 H3=>tt σ3 H3 fun b H4=>
    if b=true then te σ3 H4 fun y H5=>H5 acc=some (.lst ys)/\∃ m',m' < m/\W (i + 1) m' (ys ++ [y]) σ3 (upd H5 acc (.lst (ys ++ [y])))
    else ∃ m',m' < m/\W (i + 1) m' ys σ3 H4))
def Q8u (cap:List (Option Nat)) (wi:TI) (g:TG) (tt:TT) (te:TE):TE:=fun σ H Q=>wi σ H fun J H1=>Q8f J cap g tt te σ H1 Q
variable {prog:aN} {A:aQ} {R:Result->aC->Prop} {s:aC}
section
variable {w:aL}
theorem Q7n {elt q iter:aD} {ifs:List aD} {scope:Scope} {pos:Pos} {it a4:aB} {env:Env} (I:Nat->aC->Prop)
  (a7:∀ n s,I n s->aI (aJ prog w) A (bC it) (fun r J=>match r with
   | none=>R (.ok .next) J
   | some v=>aI (aJ prog w) A (letOwnedTupleGo q it v) (fun _ O=>aI (aJ prog w) A (assign q env v) (fun _ Y=>
     aI (aJ prog w) A (forIn ifs true fun c r=>if r=true then do let ok <- isTrue c env (aM c env); pure (ForInStep.yield ok) else pure (ForInStep.yield r)) (fun ok G=>
      if ok=true then aI (aJ prog w) A (aM elt env) (fun x a2=>
       aI (aJ prog w) A (call (.builtin "list.append") [a4,x]) (fun _ U=>∃ m,m < n/\I m U) (fun _ _=>False) a2) (fun _ _=>False) G
      else ∃ m,m < n/\I m G) (fun _ _=>False) Y)
     (fun _ _=>False) O) (fun _ _=>False) J) (fun _ _=>False) s)
  (n:Nat) (h:I n s):codeAny (aJ prog w) A (.compLoop (.ListComp elt [⟨q,iter,ifs,0⟩] scope pos) 0 it a4 env) R s:=by
 refine codeAny_loop rfl I (fun n s hI=>?_) n h;show aI _ A ((compTurn (.ListComp elt [⟨q,iter,ifs,0⟩] scope pos) 0 it a4 env).onRaise (fun x=>do noteFrame x env; theTreesLotGoes x)) _ _ s;refine wpAny_noted ?_;rw [compTurn_list];refine aF (wpAny_standAt (aF (ae (a7 n s hI) (fun r J Z=>?_) fun _ _ h'=>h'.elim)))
 cases r with
 | none=>exact aR Z
 | some v=>
  refine aF (ae Z (fun _ O a3=>?_) fun _ _ h'=>h'.elim)
  refine aF (ae a3 (fun _ Y a8=>aF (ae a8 (fun ok G B=>?_) fun _ _ h'=>h'.elim)) fun _ _ h'=>h'.elim)
  cases ok with
  | true=>
   rw [bN rfl] at B;exact aF (aF (ae B (fun x a2 a6=>aF (ae a6 (fun _ U a5=>aR (aR ⟨rfl,a5⟩)) fun _ _ h'=>h'.elim)) fun _ _ h'=>h'.elim))
  | false=>
   rw [bO D2] at B;exact aF (aR (aR ⟨rfl,B⟩))
end
theorem Q6n {elt tg iter:aD} {ifs:List aD} {tt:TT} {pos:Pos} {N N':List Str} {sc scE:Scope} {cap:List (Option Nat)} {g:TG} {te:TE} {use:Option (aB->Sem Unit)} {QQ:aB->aC->Prop} (c0:X.calm=true) (hi:PI X tg iter wi)
  (hg:∀ cl C s0 H0 ex,PG (V7 X N' sc cl C s0 H0 ex) tg g) (he:∀ cl C s0 H0 ex,PE (V7 X N' sc cl C s0 H0 ex) elt te) (f1:∀ cl C s0 H0 ex,PTs (V7 X N' sc cl C s0 H0 ex) ifs tt)
  (hN:X.N=N) (hE:X.env.scope=scE) (hc:compOkC N N' sc scE cap=true) (hs:∀ x,aw iter X.env x=pure x)
  {pins:List (aA × Obj)} {s:aC} {σ:St} {H:Hp} {Q:VK} (I:Inv X pins σ H s) (h:Q8u cap wi g tt te σ H Q)
  (fin:∀ d1 C H' s' m,Inv X pins σ H' s'->s'.heap.Ns C m->Q6v X pins H' C->Q (.ref d1) H'->compPost (aJ X.prog X.w) X.A X.xe use QQ (.ref d1) C (.ok .next) s') {pos':Pos} :
  aI (aJ X.prog X.w) X.A (comprehension (.ListComp elt [⟨tg,iter,ifs,0⟩] sc pos) sc X.env pos' (newList []) false (aM iter X.env) use) QQ X.xe s:=by
 have ck:=compOkC.of hc;obtain ⟨cl,e0,c1,c2⟩:=Qd4 (scope:=sc) (env:=X.env) fun x hx hf=>I.ok.has x.1 (by
  have:=ck.fre x hx hf;rw [<- hE] at this;exact this)
 refine wpAny_comprehension_free (use:=use) rfl hs e0 ck.kind ck.loc (thn (hi pins s σ H _ I h) fun v s1 h1=>thn h1 fun f7 s2 h2=>?_)
 obtain ⟨it,fp,tn,J,H2,e,I2,T,d6,f2,hw⟩:=h2;subst e;have b4:∀ b∈fp,b < s2.heap.objs.size:=fun b G=>by
  obtain ⟨o,e,_⟩:=T.obj _ _ d6 b G;exact O9 e
 obtain ⟨W,⟨m0,w0⟩,turn⟩:=hw s2.heap.objs.size I2.fresh;refine ay (Q6w ?_);dsimp only;have I3:Inv X pins σ (upd H2 s2.heap.objs.size (.lst [])) { s2 with heap:=s2.heap.push { cls:=.type "list",data:=.seq ([]:List aB).toArray } }:=
  I2.lnew (its:=[]) (ys:=[]) (t':=s2.toks) .nil (Nat.zero_le _)
 generalize d5:({ s2 with heap:=s2.heap.push { cls:=.type "list",data:=.seq ([]:List aB).toArray } }:aC)=s3 at I3;have d7:s3.heap=s2.heap.push { cls:=.type "list",data:=.seq ([]:List aB).toArray }:=by rw [<- d5]
 have b9:s3.heap.objs.size=s2.heap.objs.size + 1:=by rw [d7,F4]
 have f3:∀ b∈fp,Q6v X pins (upd H2 s2.heap.objs.size (.lst [])) b:=fun b G=>by
  obtain ⟨g0,g1⟩:=f2 b G;exact ⟨by rw [Qb (E9 (b4 b G))]; exact g0,g1⟩
 have k3:∀ b o,s2.heap.get? b=some o->s3.heap.get? b=some o:=fun b o e=>by rw [d7]; exact O1 _ e
 obtain ⟨a2,a7⟩:∃ a2,ag (s3.heap.objs.size + 1) sc.names cl=a2:=⟨_,rfl⟩;obtain ⟨U,Z⟩:∃ U,pushCells (s3.heap.push { cls:=.type "dict",data:=.dict #[] }) sc.names=U:=⟨_,rfl⟩;have k1:∀ b o,s3.heap.get? b=some o->U.get? b=some o:=fun b o e=>by rw [<- Z]; exact pushCells_keeps _ _ b o (O1 _ e)
 have f0:∀ x c,a2.lookup x=some c->cl.lookup x=some c\/s3.heap.objs.size + 1<=c:=fun x c e=>by
  rw [<- a7] at e;have:=X5 (sc.names) (s3.heap.push { cls:=.type "dict",data:=.dict #[] }) cl x c (by rw [F4]; exact e);rcases this with z | ⟨_,z,_⟩
  ·exact .inl z
  ·rw [F4] at z; exact .inr z
 have I4:Inv (V7 X N' sc a2 s3.heap.objs.size s3 (upd H2 s2.heap.objs.size (.lst [])) fp) [] (Q2i cap σ) (upd H2 s2.heap.objs.size (.lst [])) { s3 with heap:=U }:=by
  rw [<- a7,<- Z];exact Qkp I3 hN hE ck c1 c2 f3 (fun b G=>D3 (b4 b G) (by rw [b9]; exact Nat.le_succ _))
 have d0:tn 0 U:=T.keep _ _ _ d6 fun b G o e=>k1 b o (k3 b o e)
 generalize B:V7 X N' sc a2 s3.heap.objs.size s3 (upd H2 s2.heap.objs.size (.lst [])) fp=Y at I4;have c3:Y.xe=fun _ _=>False:=by rw [<- B]; rfl
 have O:Y.prog=X.prog:=by rw [<- B]; rfl
 have a3:Y.w=X.w:=by rw [<- B]; rfl
 have c7:Y.K=X.K:=by rw [<- B]; rfl
 have b1:Y.A=X.A:=by rw [<- B]; rfl
 have c9:Y.calm=true:=by rw [<- B]; exact c0
 have a4:Y.env=compEnvC sc a2 s3.heap.objs.size X.env:=by rw [<- B]; rfl
 have b3:Y.env.locals=s3.heap.objs.size:=by rw [a4]; rfl
 have f4:PG Y tg g:=by rw [<- B]; exact hg _ _ _ _ _
 have d9:PE Y elt te:=by rw [<- B]; exact he _ _ _ _ _
 have c8:PTs Y ifs tt:=by rw [<- B]; exact f1 _ _ _ _ _
 have a8:∀ {H':Hp},(∀ b∈fp,H' b=none)->∀ b∈fp,Q6v Y [] H' b:=fun {H'} hn b G=>by
  obtain ⟨_,g1,g2,g3,g4,g5⟩:=f3 b G;refine ⟨hn b G,by rw [b3,b9]; exact E9 (Nat.lt_succ_of_lt (b4 b G)),?_,?_,?_,fun p hp=>?_⟩
  ·rw [<- B];intro z;rcases D4.mp (I3.stkSub b z) with e | z
   ·exact g1 e
   ·exact g2 z
  ·left
   rw [<- B];exact G
  ·intro x c e;rw [a4] at e;rcases f0 x c e with z | z
   ·exact g4 x c (c1 x c z)
   ·exact fun q=>absurd (D3 (b4 b G) (F0 (F0 (Nat.le_succ _) (b9 ▸ Nat.le_succ _)) (q ▸ z))) (Nat.lt_irrefl _)
  ·rw [<- B] at hp;cases hp
 have d3:∀ {a6:St} {H':Hp} {s':aC},Inv Y [] a6 H' s'->Q (.ref s2.heap.objs.size) H'->compPost (aJ X.prog X.w) X.A X.xe use QQ (.ref s2.heap.objs.size) s3.heap.objs.size (.ok .next) s':=fun {a6 H' s'} J q=>by
  obtain ⟨mm,d4,_⟩:=J.loc;rw [b3] at d4;have c6:H' s3.heap.objs.size=none:=by have:=J.free; rw [b3] at this; exact this
  have hok:=J.hok;rw [O,a3] at hok;have u1:Un (frs X.stack) fp (upd H2 s2.heap.objs.size (.lst [])) H' s3.heap s'.heap:=by
   have:=J.base;rw [<- B] at this;exact this
  have e8:s'.os=s3.os:=by have:=J.os; rw [<- B] at this; exact this
  refine fin _ _ H' s' mm (I3.call' (s':=s') e8 u1 hok J.bare fun b G=>?_) d4 (I3.fpOk (O8 _) c6) q
  obtain ⟨_,g1,g2,g3,g4,g5⟩:=f3 b G;exact ⟨g3,g1,g4,g5⟩
 have b2:codeAny (aJ X.prog X.w) X.A (.compLoop (.ListComp elt [⟨tg,iter,ifs,0⟩] sc pos) 0 (.ref it) (.ref s2.heap.objs.size) Y.env)
   (compPost (aJ X.prog X.w) X.A X.xe use QQ (.ref s2.heap.objs.size) s3.heap.objs.size) { s3 with heap:=U }:=by
  refine Q7n (fun n s'=>∃ i ys a6 H',Inv Y [] a6 H' s'/\tn i s'.heap/\(∀ b∈fp,H' b=none)/\W i n ys a6 H') ?_ m0 ⟨0,[],_,_,I4,d0,fun b G=>(f3 b G).1,w0⟩
  rintro n s5 ⟨i,ys,b5,H5,I5,d2,d8,w5⟩;obtain ⟨f5,q⟩:=turn i n ys b5 H5 w5;rcases q with ⟨stop,q⟩ | ⟨go,f6,step⟩
  ·refine thn (b1 ▸ T.done Y O a3 c7 c9 i [] s5 b5 H5 _ I5 (a8 d8) d2 stop) fun r s6 ⟨hr,I6⟩=>?_
   subst hr;exact d3 I6 q
  ·refine thn (b1 ▸ T.item Y O a3 c7 c9 i [] s5 b5 H5 _ I5 (a8 d8) d2 go) fun r s6 ⟨u,hr,h6⟩=>?_
   subst hr;refine thn h6 fun _ s7 ⟨x,H7,I7,r7,y7,b0,e7⟩=>?_
   have e4:=I7.pinned (a8 e7) (T.obj _ _ b0);have g7:=f4 _ s7 b5 H7 x u _ e4 r7 (step x H7 y7);rw [O,a3,b1,c3] at g7;refine thn g7 fun _ s8 ⟨a5,H8,I8,q8⟩=>?_
   have t8:=c8 _ s8 a5 H8 _ I8 q8;rw [O,a3,b1,c3] at t8;refine thn t8 fun e5 e6 ⟨e9,b6,b7⟩=>?_
   cases e5 with
   | false=>
    rw [bO D2] at b7 ⊢;obtain ⟨m',c5,w9⟩:=b7;refine ⟨m',c5,i + 1,_,a5,_,b6.unpinned,T.keep _ _ _ b0 fun b G o eo=>(b6.pin (b,o) (E4 _ (E4 _ (Xe G eo)))).1,fun b G=>?_,w9⟩;obtain ⟨o,eo,d⟩:=T.obj _ _ b0 b G;exact (b6.pin (b,o) (E4 _ (E4 _ (Xe G eo)))).2.1
   | true=>
   rw [bN rfl] at b7 ⊢;have g8:=d9 _ e6 a5 e9 _ b6 b7;rw [O,a3,b1,c3] at g8;refine thn g8 fun y s9 ⟨yv,H9,I9,r9,a9,m',c5,w9⟩=>?_
   obtain ⟨z,its,nn,rr,hl,e⟩:=I9.lstM a9;refine au F.slot_list_append ⟨_,e,rfl⟩ F.entry_list_append (F.args_list_append_2 _ _) (PySem.list_append _ its.toArray nn y (by rw [O4]; omega)) ⟨e,?_⟩;have c4:Inv Y ([] ++ Q5b fp s7.heap) a5 (upd H9 s2.heap.objs.size (.lst (ys ++ [yv]))) { s9 with heap:=s9.heap.update s2.heap.objs.size (Obj.mapSeq fun a=>a.push y) }:=
    I9.lset (t':=s9.toks) (its':=its ++ [y]) a9 e (by simp) (rr.append (.cons r9 .nil)) (by rw [O6,List.length_singleton]; omega)
   refine ⟨m',c5,i + 1,_,a5,_,c4.unpinned,T.keep _ _ _ b0 fun b G o eo=>(c4.pin (b,o) (E4 _ (E4 _ (Xe G eo)))).1,fun b G=>?_,w9⟩;obtain ⟨o,eo,d⟩:=T.obj _ _ b0 b G;exact (c4.pin (b,o) (E4 _ (E4 _ (Xe G eo)))).2.1
 rw [a4] at b2;have b8:=codeAny_compStart_list (rest:=[]) (ifs:=ifs) b2 (T.self X.A 0 _ _ _ d0 b2);subst d5;rw [<- a7,<- Z] at b8;exact b8
theorem Qim {elt tg iter:aD} {ifs:List aD} {tt:TT} {pos:Pos} {N N':List Str} {sc scE:Scope} {cap:List (Option Nat)} {g:TG} {te:TE} (B:X.calm=true) (hi:PI X tg iter wi)
  (hg:∀ cl C s0 H0 ex,PG (V7 X N' sc cl C s0 H0 ex) tg g) (he:∀ cl C s0 H0 ex,PE (V7 X N' sc cl C s0 H0 ex) elt te) (O:∀ cl C s0 H0 ex,PTs (V7 X N' sc cl C s0 H0 ex) ifs tt)
  (Y:X.N=N:=by rfl) (hE:X.env.scope=scE:=by rfl) (hc:compOkC N N' sc scE cap=true:=by decide +kernel) (hs:∀ x,aw iter X.env x=pure x:=by intro _; rfl) :
  PE X (.ListComp elt [⟨tg,iter,ifs,0⟩] sc pos) (Q8u cap wi g tt te):=by
 intro pins s σ H Q I h;rw [eval_ListComp];refine Q6n (use:=none) B hi hg he O Y hE hc hs I h fun G C H' s' m I' Z hf q=>⟨m,Z,fun h' J=>?_⟩
 obtain ⟨f0,U,f2,f3,f4,f5⟩:=hf;exact ⟨.ref G,H',I'.turned (t':=s'.toks) (fun b o hb e=>(J.2 b hb).trans e) f0 U f3 f4 f5,rfl,q⟩
theorem Qib {ifs:List aD} {tt:TT} {i:Nat} {x:Str} {px B:Pos} {elt tg iter:aD} {pos:Pos} {N N':List Str} {sc scE:Scope} {cap:List (Option Nat)} {g:TG} {te:TE} (U:X.N.Nodup) (Y:X.N[i]?=some x) (hx:Loc X.env.scope x) (G:X.calm=true) (hi:PI X tg iter wi)
  (hg:∀ cl C s0 H0 ex,PG (V7 X N' sc cl C s0 H0 ex) tg g) (he:∀ cl C s0 H0 ex,PE (V7 X N' sc cl C s0 H0 ex) elt te) (a4:∀ cl C s0 H0 ex,PTs (V7 X N' sc cl C s0 H0 ex) ifs tt)
  (a3:swapsWith (.ListComp elt [⟨tg,iter,ifs,0⟩] sc pos) (some (.Name x px)) B.line X.env=pure true:=by rfl)
  (hN:X.N=N:=by rfl) (hE:X.env.scope=scE:=by rfl) (hc:compOkC N N' sc scE cap=true:=by decide +kernel) (hs:∀ x,aw iter X.env x=pure x:=by intro _; rfl)
  (hf:X.fn x=true\/X.env.scope.names.lookup x=some .local:=by first | exact .inl rfl | exact .inr rfl | assumption) :
  PS X (.Assign [.Name x px] (.ListComp elt [⟨tg,iter,ifs,0⟩] sc pos) B) (Qm8 (Q8u cap wi g tt te) (Q89 i)):=by
 intro pins s σ H D I h;rw [exec_Assign_Name_used _ _ _ _ a3];refine aF (wpAny_standAt (aF ?_));show aI _ _ (do let _ <- comprehension (.ListComp elt [⟨tg,iter,ifs,0⟩] sc pos) sc X.env _ (newList []) false (aM iter X.env) (some (assign (.Name x px) X.env))) _ _ s;refine aF (ae (Q6n (use:=some (assign (.Name x px) X.env)) (QQ:=fun _ s'=>SP X pins D .next s') G hi hg he a4 hN hE hc hs I h ?_) (fun _ s' hq=>aR (aR hq)) fun _ _ e=>e)
 intro J C H' s' m I' hm Z q;obtain ⟨f0,f1,f2,f3,f4,f5⟩:=Z;show aI _ _ (assign (.Name x px) X.env (.ref J)) _ _ _;refine wpAny_assign_Name (Q7q I' U Y hx (v:=.ref J) rfl (fun s2 I2 ⟨a,sb,O⟩=>⟨m,?_,fun h' a2=>?_⟩) hf)
 ·refine hm.sameBut sb fun z=>?_
  rcases O with O | O
  ·exact f1 (z.trans O)
  ·exact f4 x a O z.symm
 ·exact ⟨_,H',I2.turned (t':=s2.toks) (fun b o hb e=>(a2.2 b hb).trans e) f0 f1 f3 f4 f5,q⟩
section
variable {κ:Type} [DecidableEq κ]
def Kz (kvs:List (κ × V)) (k:κ):Option V:=(kvs.find? fun kv=>decide (kv.1=k)).map (·.2)
def Q72 (kvs:List (κ × V)) (k:κ) (v:V):List (κ × V):=
 if (kvs.any fun kv=>decide (kv.1=k))=true then kvs.map (fun kv=>if kv.1=k then (kv.1,v) else kv) else kvs ++ [(k,v)]
theorem Qa1 {p:κ × V} {r:List (κ × V)} {k:κ} (e:p.1=k):Kz (p :: r) k=some p.2:=by simp [Kz,List.find?_cons,e]
theorem Qa2 {p:κ × V} {r:List (κ × V)} {k:κ} (e:¬ p.1=k):Kz (p :: r) k=Kz r k:=by simp [Kz,List.find?_cons,e]
theorem Qb4 (kvs:List (κ × V)) (k:κ) (v:V):(Q72 kvs k v).length<=kvs.length + 1:=by
 unfold Q72
 split
 ·rw [O2]; omega
 ·rw [O6,D7,List.length_nil]; omega
theorem KV.val {kvs:List (κ × V)} {vs:List (κ × aB)} (r:KV kvs vs) (k:κ):RelO (Kz kvs k) (bE vs k):=by
 unfold KV at r
 induction r with
 | nil=>exact True.intro
 | @cons p q ps B h t I=>
  obtain ⟨h1,h2⟩:=h
  by_cases e:p.1=k
  ·have G:q.1=k:=h1.symm.trans e;have b:bE (q :: B) k=some q.2:=by simp [bE,List.find?_cons,G]
   rw [Qa1 e,b]; exact h2
  ·have G:¬ q.1=k:=fun z=>e (h1.trans z)
   have b:bE (q :: B) k=bE B k:=by simp [bE,List.find?_cons,G]
   rw [Qa2 e,b]; exact I
theorem KV.any {kvs:List (κ × V)} {vs:List (κ × aB)} (r:KV kvs vs) (k:κ):(kvs.any fun q=>decide (q.1=k))=vs.any fun q=>decide (q.1=k):=by
 unfold KV at r
 induction r with
 | nil=>rfl
 | cons h t B=>rw [List.any_cons,List.any_cons,B,h.1]
theorem KV.repl {kvs:List (κ × V)} {vs:List (κ × aB)} (r:KV kvs vs) (k:κ) (G:RelV y u) :
  KV (kvs.map fun B=>if B.1=k then (B.1,y) else B) (vs.map fun B=>if B.1=k then (B.1,u) else B):=by
 unfold KV at r ⊢
 induction r with
 | nil=>exact .nil
 | @cons p q ps J h t I=>
  rw [F2,F2];refine .cons ?_ I;obtain ⟨h1,h2⟩:=h
  by_cases e:p.1=k
  ·rw [bN e,bN (h1.symm.trans e)]; exact ⟨h1,G⟩
  ·rw [bO e,bO (fun z=>e (h1.trans z))]; exact ⟨h1,h2⟩
theorem KV.put {kvs:List (κ × V)} {vs:List (κ × aB)} (r:KV kvs vs) (k:κ) (q:RelV y u):KV (Q72 kvs k y) (stored vs k u):=by
 unfold Q72 stored;rw [r.any k]
 by_cases e:(vs.any fun B=>decide (B.1=k))=true
 ·rw [bN e,bN e]; exact r.repl k q
 ·rw [bO e,bO e]; exact Paired.snoc r ⟨rfl,q⟩
end
theorem Qje {P:aN} {w:aL} {k:Key} (r:RelV (kV k) u):(Qx P w).is k u=true:=by
 cases k with
 | inl i=>obtain ⟨t,e⟩:=(show ∃ t,u=Value.int i t from r); subst e; exact Qax P w i t
 | inr x=>obtain ⟨t,e⟩:=(show ∃ t,u=Value.str x t from r); subst e; exact Qaw P w x t
theorem Q87 {P:aN} {w:aL}:∀ {q:List Key} {us:List aB},Vals (q.map kV) us->ItemsAre (Qx P w) q us
 | [],_,r=>by rw [List.map_nil] at r; cases r; exact .nil
 | k :: q,_,r=>by
  rw [F2] at r;cases r with
  | cons h t=>exact .cons (Qje h) (Q87 t)
abbrev KT (H:Hp):List (List Key × V)->List (List Key × aA × aB)->Prop:=az fun p q=>p.1=q.1/\H q.2.1=some (.tup (p.1.map kV))/\RelV p.2 q.2.2
theorem KT.val {H:Hp} {kvs:List (List Key × V)} {xs:List (List Key × aA × aB)} (r:KT H kvs xs) (k:List Key):RelO (Kz kvs k) ((atKey xs k).map (·.2)):=by
 induction r with
 | nil=>exact True.intro
 | @cons p q ps B h t I=>
  obtain ⟨h1,_,h2⟩:=h
  by_cases e:p.1=k
  ·have G:q.1=k:=h1.symm.trans e;have b:atKey (q :: B) k=some q.2:=by simp [atKey,List.find?_cons,G]
   rw [Qa1 e,b]; exact h2
  ·have G:¬ q.1=k:=fun z=>e (h1.trans z)
   have b:atKey (q :: B) k=atKey B k:=by simp [atKey,List.find?_cons,G]
   rw [Qa2 e,b]; exact I
variable {P:aN} {H:Hp} {a:aA}
section
variable {w:aL} {h:Heap}
theorem Qqk {u:HO} (ok:HOk P w H h) (e:Rd H a u):ObjOk P w H h a u:=e.ok ok
theorem Qjw {kvs:List (Key × V)} (ok:HOk P w H h) (e:Rd H a (.dK kvs)):kvs.length<=sizeLine/\(a == ai)=false/\∃ vs,KV kvs vs/\h.DictOf (Qx P w) a vs:=
 show ObjOk P w H h a (.dK kvs) from Qqk ok e
theorem Qxi {kvs:List (Key × V)} (ok:HOk P w H h) (e:H a=some (.dK kvs)):kvs.length<=sizeLine/\(a == ai)=false/\∃ vs,KV kvs vs/\h.DictOf (Qx P w) a vs:=Qjw ok (.inl e)
theorem Qjc {q:List Key} (ok:HOk P w H h) (e:H a=some (.tup (q.map kV))):(tupleKind (Qx P w)).is h q a:=by
 obtain ⟨_,its,r,o,h1,h2,n,B⟩:=(show ObjOk P w H h a (.tup (q.map kV)) from ok a _ e);exact ⟨o,its.toArray,n,h1,h2,B,by simpa using Q87 r⟩
theorem Qr0 {kvs:List (List Key × V)} (ok:HOk P w H h) (e:Rd H a (.dT kvs)):kvs.length<=sizeLine/\(a == ai)=false /\
  ∃ xs,KT H kvs xs/\h.DictOfH (tupleKind (Qx P w)) a xs:=by
 obtain ⟨z,y,xs,r,o,es,I,h1,h2,Y,O,J⟩:=(show ObjOk P w H h a (.dT kvs) from Qqk ok e);refine ⟨z,y,xs,r,o,es,I,h1,h2,Y,O,fun x B=>?_,J⟩;have all:∀ {l:List (List Key × V)} {m:List (List Key × aA × aB)},KT H l m->∀ x∈m,(tupleKind (Qx P w)).is h x.1 x.2.1:=by
  intro l m q
  induction q with
  | nil=>intro x B; exact nomatch B
  | @cons p q ps Z G t U=>
   intro x B;rcases D4.mp B with e | B
   ·subst e;exact Qjc ok (by rw [<- G.1]; exact G.2.1)
   ·exact U x B
 exact all r x B
end
def DGet (H:Hp) (a:aA) (y:V) (r:Option V):Prop:=
 (∃ kvs k,Rd H a (.dK kvs)/\y=kV k/\r=Kz kvs k)\/∃ kvs k b,Rd H a (.dT kvs)/\y=.ref b/\H b=some (.tup (k.map kV))/\r=Kz kvs k
theorem DGet.k {H:Hp} {a:aA} {kvs:List (Key × V)} {k:Key} (e:H a=some (.dK kvs)):DGet H a (kV k) (Kz kvs k):=.inl ⟨kvs,k,.inl e,rfl,rfl⟩
variable {pins:List (aA × Obj)} {σ:St} {y v:V} {u r:aB} {o:Option V} {E:aB->aC->Prop}
theorem Inv.big (I:Inv X pins σ H s):ai < s.heap.objs.size:=by
 have h:aS < s.heap.objs.size:=(I.mod.glob.keeps I.bk).lt;exact Nat.lt_trans (by decide) h
theorem Qgd (Z:A.units + 1 < aa) (I:Inv X pins σ H s) (g:DGet H a y (some v)) (Y:RelV y u) (h:∀ G s',Inv X pins σ H s'->RelV v G->Q G s') :
  aI (aJ X.prog X.w) A (getItem (.ref a) u) Q E s:=by
 rcases g with ⟨kvs,k,e,J,l⟩ | ⟨kvs,k,b,e,J,eb,l⟩
 ·subst J;obtain ⟨z,hd,vs,B,dd⟩:=Qjw I.hok e;obtain ⟨G,U,q⟩:=RelO.some_of (v:=v) (o:=bE vs k) (by rw [l]; exact B.val k);exact wpAny_getItem_of (Qje Y) dd.mapOf U (h G _ (I.tok _) q)
 ·subst J;cases (show u=Value.ref b from Y);obtain ⟨z,hd,xs,B,dd⟩:=Qr0 I.hok e;obtain ⟨G,U,q⟩:=RelO.some_of (v:=v) (o:=(atKey xs k).map (·.2)) (by rw [l]; exact B.val k);obtain ⟨p,hp,O⟩:=Option.map_eq_some_iff.mp U;refine wpAny_getItem_heap (tupleKind_room_in1 Z) (Qjc I.hok eb) dd hp ?_;rw [O];exact h G _ (I.tok _) q
theorem Qq0 {t':Nat} {ob:HO} (I:Inv X pins σ H s) (J:Mut (H a)) (hs:Heap.SameBut a s.heap h') (B:∃ q,h'.get? a=some q) (new:ObjOk X.prog X.w (upd H a ob) h' a ob) :
  Inv X pins σ (upd H a ob) { s with heap:=h',toks:=t' }:=
 I.write (x:=a) (e:=a) J (.inl rfl) (fun b q G z=>(hs.2 b G).trans z) B new
theorem Qu1 {w:aL} {H':Hp} {kvs:List (Key × V)} {vs:List (Key × aB)} (z:kvs.length<=sizeLine) (hd:(a == ai)=false) (q:KV kvs vs) (dd:h'.DictOf (Qx P w) a vs) :
  ObjOk P w H' h' a (.dK kvs):=⟨z,hd,vs,q,dd⟩
def Qqb (i:aD):Prop:=∀ ov iv,subscripted i false ov iv=operate [ov,iv] (getItem ov iv)
theorem Qmb {prog:aN} {w:aL} {A:aQ} {E:aB->aC->Prop} {s:aC} {env:Env} {value q:aD} {pos:Pos} {T id:String} {Q:aB->aC->Prop}
  (hl:typeLookup (.type T) "__getitem__" = pure (some (.builtin id))) (hs:Qqb q)
  (h:aI (aJ prog w) A (aM value env) (fun o J=>aI (aJ prog w) A (aM q env) (fun i B=>B.TypeIs o T/\aI (aJ prog w) A (getItem o i) Q E B) E J) E s) :
  aI (aJ prog w) A (aM (.Subscript value q pos) env) Q E s:=by
 refine Subscript_ (ae h (fun o J O=>ae O (fun i B G=>?_) fun _ _ x=>x) fun _ _ x=>x)
 obtain ⟨Y,G⟩:=G;unfold subscriptTail;refine aF ?_;rw [getitemInPython_of_ne Y.not_modules];refine aF (wpAny_specialOf Y hl ?_);have fin:aI (aJ prog w) A (subscripted q false o i) (fun r I=>aI (aJ prog w) A (letTemporaryGo value o r >>= fun _=>pure r) Q E I) E B:=by
  rw [hs o i];exact wpAny_operating (ae G (fun r I U=>aF (wpAny_letTemporaryGo (aR U))) fun _ _ x=>x)
 first
  | exact aR (aF fin)
  | exact aF (aR (aF fin))
  | exact aF fin
theorem Qbg (I:Inv X pins σ H s) (g:DGet H a y o):s.TypeIs (.ref a) "dict" := by
 rcases g with ⟨kvs,k,e,_,_⟩ | ⟨kvs,k,b,e,_,_,_⟩
 ·obtain ⟨_,_,vs,_,dd⟩:=Qjw I.hok e;exact dd.typeIs
 ·obtain ⟨_,_,xs,_,dd⟩:=Qr0 I.hok e;exact dd.typeIs
def Qvi (td ty:TE):TE:=fun σ H Q=>td σ H fun x H1=>ty σ H1 fun y H2=>∃ a v,x=.ref a/\DGet H2 a y (some v)/\Q v H2
variable {e value:aD} {pos pos' tpos:Pos} {td ty tv:TE}
section
variable {o i:aD}
theorem Qdq (U:X.A.units + 1 < aa) (O:PE X o td) (hi:PE X i ty) (hs:Qqb i):PE X (.Subscript o i pos) (Qvi td ty):=by
 intro pins s σ H Q I h;refine Qmb PySem.F.slot_dict_getitem.lookup hs (thn (O pins s σ H _ I h) fun u s1 ⟨x,H1,Z,G,q1⟩=>thn (hi pins s1 σ H1 _ Z q1) fun iv s2 ⟨y,H2,B,J,a,v,ex,g,q2⟩=>?_)
 subst ex;obtain rfl:u=Value.ref a:=G;exact ⟨Qbg B g,Qgd U B g J fun w' s3 Y q=>⟨v,H2,Y,q,q2⟩⟩
end
theorem Qjx {w:aL} (h:Heap) (q:ai < h.objs.size):ObjOk P w H (h.push { cls:=.type "dict",data:=.dict #[] }) h.objs.size (.dK []):=
 ⟨Nat.zero_le _,beq_eq_false_iff_ne.mpr (Ne.symm (E9 q)),[],.nil,Heap.DictOf.new h⟩
def Qby:List (TE × TE)->St->Hp->(List (V × V)->Hp->Prop)->Prop
 | [],_,H,Q=>Q [] H
 | (tk,tv) :: r,σ,H,Q=>tk σ H fun x H1=>tv σ H1 fun y H2=>Qby r σ H2 fun ps H3=>Q ((x,y) :: ps) H3
abbrev VV:List (V × V)->List (aB × aB)->Prop:=az fun p q=>RelV p.1 q.1/\RelV p.2 q.2
def PPs (X:Cx) (pos:Pos) (keys:List (Option aD)) (values:List aD) (trs:List (TE × TE)):Prop:=
 ∀ (pins:List (aA × Obj)) (s:aC) (σ:St) (H:Hp) (Q:List (V × V)->Hp->Prop),Inv X pins σ H s->Qby trs σ H Q ->
  aI (aJ X.prog X.w) X.A (evalPairs (pairTrees keys values X.env pos)) (fun vs s'=>∃ ps H',Inv X pins σ H' s'/\VV ps vs/\Q ps H') X.xe s
theorem Qdn :PPs X pos [] [] []:=fun pins s σ H Q I h=>pairTrees_nil_walk ⟨[],H,I,.nil,h⟩
theorem zh {k v:aD} {G:List (Option aD)} {vs:List aD} {tk:TE} {q:List (TE × TE)} (Z:PE X k tk) (Y:PE X v tv) (hr:PPs X pos G vs q) :
  PPs X pos (some k :: G) (v :: vs) ((tk,tv) :: q):=fun pins s σ H Q I h=>
 pairTrees_cons_walk (thn (Z pins s σ H _ I h) fun u s1 ⟨x,H1,I1,J,q1⟩=>thn (Y pins s1 σ H1 _ I1 q1) fun w2 s2 ⟨y,H2,I2,U,q2⟩=>
  thn (hr pins s2 σ H2 _ I2 q2) fun ws s3 ⟨ps,O,I3,B,q3⟩=>⟨(x,y) :: ps,O,I3,.cons ⟨J,U⟩ B,q3⟩)
def yu (kvs more:List (Key × V)):List (Key × V):=more.foldl (fun acc kv=>Q72 acc kv.1 kv.2) kvs
theorem KV.merge:∀ {more:List (Key × V)} {B:List (Key × aB)} {kvs:List (Key × V)} {vs:List (Key × aB)},KV more B->KV kvs vs->KV (yu kvs more) (merged vs B):=by
 intro more B kvs vs r;unfold KV at r
 induction r generalizing kvs vs with
 | nil=>intro q; exact q
 | @cons p q ps J h t G=>
  intro I;have e:KV (Q72 kvs p.1 p.2) (stored vs q.1 q.2):=by
   have:=I.put p.1 h.2;rw [<- h.1]; exact this
  exact G e
theorem Q18:∀ (more kvs:List (Key × V)),(yu kvs more).length<=kvs.length + more.length
 | [],kvs=>by show kvs.length<=kvs.length + 0; omega
 | p :: r,kvs=>by
  have h1:=Q18 r (Q72 kvs p.1 p.2);have h2:=Qb4 kvs p.1 p.2;show (yu (Q72 kvs p.1 p.2) r).length<=_;rw [D7]; omega
theorem Q6p {P:aN} {w:aL}:∀ {kvs:List (Key × V)} {I:List (aB × aB)},VV (kvs.map fun G=>(kV G.1,G.2)) I->∃ B,Carries (Qx P w) I B/\KV kvs B
 | [],_,r=>by rw [List.map_nil] at r; cases r; exact ⟨[],True.intro,.nil⟩
 | p :: kvs,_,r=>by
  rw [F2] at r;cases r with
  | @cons a b U bs h t=>
   obtain ⟨B,c,q⟩:=Q6p (P:=P) (w:=w) t;obtain ⟨O,J⟩:=b;exact ⟨(p.1,J) :: B,⟨Qje h.1,rfl,c⟩,.cons ⟨rfl,h.2⟩ q⟩
def Qvh (trs:List (TE × TE)):TE:=fun σ H Q=>∀ p,H p=none->Qby trs σ (upd H p (.dK [])) fun ps H2=>H2 p=some (.dK [])/\∃ kvs:List (Key × V),ps=kvs.map (fun kv=>(kV kv.1,kv.2))/\kvs.length<=15/\Q (.ref p) (upd H2 p (.dK (yu [] kvs)))
theorem Qdp {B:List (Option aD)} {G:List aD} {O:List (TE × TE)} (h:PPs X pos B G O) (U:B.all (·.isSome)=true) (hl:B.length=G.length) (h0:B≠[])
  (Z:B.length<=15):PE X (.Dict B G pos) (Qvh O):=by
 intro pins s σ H Q I q;have hn:=I.hok.fresh (O8 s.heap.objs.size);have I1:=I.laid (a:=s.heap.objs.size) (o:=.dK []) (h':=s.heap.push { cls:=.type "dict",data:=.dict #[] }) (t':=s.toks) (fun _ _ q=>O1 _ q) (O8 _) (Qjx s.heap I.big);refine wpAny_Dict_walk (knd:=Qx X.prog X.w) U hl h0 Z (thn (h pins _ σ _ _ I1 (q _ hn)) fun ws s2 ⟨ps,H2,I2,Y,e,kvs,ep,lk,q2⟩=>?_)
 subst ep;obtain ⟨rs,c,rk⟩:=Q6p (P:=X.prog) (w:=X.w) Y;obtain ⟨z,hd,a2,r0,dd⟩:=Qxi I2.hok e;cases r0;refine ⟨rs,c,dd,fun h' J hs=>⟨.ref s.heap.objs.size,_,?_,rfl,q2⟩⟩
 have hz:(yu [] kvs).length<=sizeLine:=by
  have h1:=Q18 kvs [];rw [List.length_nil] at h1;rw [sizeLine_eq]; omega
 have he:∃ q,h'.get? s.heap.objs.size=some q:=let ⟨q,_,_,hq,_⟩:=J; ⟨q,hq⟩;exact Qq0 I2 (by rw [e]; exact True.intro) hs he (Qu1 hz hd (rk.merge .nil) J)
structure M1 (X:Cx) (o:aD) (m:Str) (apos:Pos) (e:aD) (cpos:Pos):Prop where
 base:ak o m X.env (aM o X.env)=aM o X.env
 few:((aU cpos (aO [e] X.env)).all (fun x=>!x.1) && (backToKw cpos (keywordEach [] X.env)).all (fun x=>x.1.isSome)
  && decide (([e]:List aD).length + ([]:List Keyword).length + (if ([]:List Keyword).isEmpty then 0 else 1) < 30))=true
 line:(apos.endLine == cpos.line)=true
 trees:aU cpos (aO [e] X.env)=[(false,aM e X.env)]
structure M2 (X:Cx) (o:aD) (m:Str) (apos:Pos) (e f:aD) (cpos:Pos):Prop where
 base:ak o m X.env (aM o X.env)=aM o X.env
 few:((aU cpos (aO [e,f] X.env)).all (fun x=>!x.1) && (backToKw cpos (keywordEach [] X.env)).all (fun x=>x.1.isSome)
  && decide (([e,f]:List aD).length + ([]:List Keyword).length + (if ([]:List Keyword).isEmpty then 0 else 1) < 30))=true
 line:(apos.endLine == cpos.line)=true
 trees:aU cpos (aO [e,f] X.env)=[(false,aM e X.env),(false,aM f X.env)]
section
open AutoSeq1 (wpAny_loadPart')
end
end L2
namespace L2
open PySem PySem.Spec PyProof.Rows PySem.W
section
variable (r:Nat->Nat)
def rk (p:Array Nat) (i:Nat):Nat:=r (p.getD i 0)
variable {r}
end
end L2
namespace L2
open PySem PySem.Spec PyProof.Rows
end L2
namespace L2
open PySem PySem.Spec PyProof.Rows PySem.W
end L2
namespace L2
open PySem PySem.Spec PyProof.Rows
end L2
namespace L2
open PySem PySem.Spec PyProof.Rows PySem.W
end L2
namespace L2
open PySem PySem.Spec PyProof.Rows
end L2
namespace L2
open PySem PySem.Spec PyProof.Rows SeqAt
end L2
namespace Sm
open PySem PySem.Spec L2
variable {H H':Hp} {p a:aA} {o:HO} {v:V} {vs:List V} {κ:Type} {σ:St} {e:aD} {es:List aD} {f:aB->aB->Sem aB} {Q:Bool->Hp->Prop} {D:Ends}
section
inductive PV where
 | non | bl (b:Bool) | int (i:Int) | str (x:Str) | tup (xs:List PV) | lst (xs:List PV) | fro (xs:List PV) | ref (i:Nat) | dic
variable {ps:List PV}
inductive Cell where
 | lst (xs:List PV) | dic (kvs:List (Key × PV)) | dtp (kvs:List (List Key × PV)) | frd (kvs:List (Key × PV))
 | obj (C:aA) (fs:List (Str × PV))
variable {cl:Cell}
abbrev Q1:=List Cell
variable {st:Q1}
structure Exc where
 cls:Str
 fs:Option (Str × PV):=none
inductive Res (α:Type) where
 | ok (a:α) (st:Q1) | exc (x:Exc) (st:Q1) | stuck
abbrev Gam:=List (Option PV)
variable {Γ:Gam} {m:Gam->Q1->Res Bool}
abbrev ME:=Gam->Q1->Res PV
structure Tk where
 tr:List aA
 hid:List aA
variable {ρ:Tk} {P:Bool->Q1->Hp->Tk->Prop}
instance:Membership aA Tk:=⟨fun t a=>a∈t.tr\/a∈t.hid⟩
def Tk.nil:Tk:=⟨[],[]⟩
theorem Tk.not_nil (a:aA):a∉Tk.nil:=fun z=>by rcases z with z | z <;> cases z
def Tk.add (t:Tk) (p:aA):Tk:=⟨t.tr ++ [p],t.hid⟩
def Tk.hide (t:Tk) (p:aA):Tk:=⟨t.tr,p :: t.hid⟩
mutual
def Rep (H:Hp) (ρ:Tk):PV->V->Prop
 | .non,v=>v=.non
 | .bl b,v=>v=.bl b
 | .int i,v=>v=.int i
 | .str x,v=>v=.str x
 | .tup ps,v=>∃ a vs,v=.ref a/\H a=some (.tup vs)/\a∉ρ/\RepL H ρ ps vs
 | .lst ps,v=>∃ a vs,v=.ref a/\H a=some (.lst vs)/\a∉ρ/\RepL H ρ ps vs
 | .fro ps,v=>∃ a vs,v=.ref a/\Rd H a (.lst vs)/\a∉ρ/\RepL H ρ ps vs
 | .ref i,v=>∃ a,ρ.tr[i]?=some a/\v=.ref a
 | .dic,v=>∃ a,v=.ref a/\H a=some (.dK [])/\a∉ρ
def RepL (H:Hp) (ρ:Tk):List PV->List V->Prop
 | [],vs=>vs=[]
 | p :: ps,vs=>∃ v r,vs=v :: r/\Rep H ρ p v/\RepL H ρ ps r
end
structure Ext (H:Hp) (ρ:Tk) (H':Hp) (ρ':Tk):Prop where
 pre:ρ.tr <+: ρ'.tr
 hidM:∀ a,a∈ρ.hid->a∈ρ'.hid
 hidN:∀ a,a∈ρ'.hid->a∈ρ.hid\/H a=none
 keep:∀ a o,H a=some o->a∉ρ.tr->H' a=some o
 new:∀ a,a∈ρ'.tr->a∈ρ.tr\/H a=none
 old:∀ a o,H a=some o->∃ o',H' a=some o'
 frz:∀ a o u,H a=some (.frz o u)->H' a=some (.frz o u)
theorem Ext.refl (H:Hp) (ρ:Tk):Ext H ρ H ρ:=⟨List.prefix_refl _,fun _ h=>h,fun _ h=>.inl h,fun _ _ h _=>h,fun _ h=>.inl h,fun _ o h=>⟨o,h⟩,fun _ _ _ h=>h⟩
theorem Ext.trans {H1 H2:Hp} {ρ1 B:Tk} (a:Ext H ρ H1 ρ1) (b:Ext H1 ρ1 H2 B):Ext H ρ H2 B where
 pre:=a.pre.trans b.pre
 hidM:=fun x h=>b.hidM x (a.hidM x h)
 hidN:=fun x h=>by
  rcases b.hidN x h with z | z
  ·exact a.hidN x z
  ·right
   cases q:H x with
   | none=>rfl
   | some o=>
    obtain ⟨o',e⟩:=a.old x o q;rw [e] at z; cases z
 keep:=fun x o h n=>b.keep x o (a.keep x o h n) fun z=>by
  rcases a.new x z with z | z
  ·exact n z
  ·rw [h] at z; cases z
 new:=fun x h=>by
  rcases b.new x h with z | z
  ·exact a.new x z
  ·right
   cases q:H x with
   | none=>rfl
   | some o=>
    obtain ⟨o',e⟩:=a.old x o q;rw [e] at z; cases z
 old:=fun x o h=>by
  obtain ⟨o',e⟩:=a.old x o h;exact b.old x o' e
 frz:=fun x o u h=>b.frz x o u (a.frz x o u h)
theorem Ext.add (h:H p=none):Ext H ρ (upd H p o) ρ where
 pre:=List.prefix_refl _
 hidM:=fun _ h=>h
 hidN:=fun _ h=>.inl h
 keep:=fun a u e _=>by rw [Qb (Qe e h)]; exact e
 new:=fun a e=>.inl e
 old:=fun a u e=>⟨u,by rw [Qb (Qe e h)]; exact e⟩
 frz:=fun a o u e=>by rw [Qb (Qe e h)]; exact e
theorem Ext.addT (h:H p=none):Ext H ρ (upd H p o) (ρ.add p) where
 pre:=List.prefix_append _ _
 hidM:=fun _ h=>h
 hidN:=fun _ h=>.inl h
 keep:=fun a u e _=>by rw [Qb (Qe e h)]; exact e
 new:=fun a e=>by
  rcases F1.mp e with z | z
  ·exact .inl z
  ·right
   have:a=p:=by simpa using z
   rw [this]; exact h
 old:=fun a u e=>⟨u,by rw [Qb (Qe e h)]; exact e⟩
 frz:=fun a o u e=>by rw [Qb (Qe e h)]; exact e
theorem Ext.same (h:Same H H'):Ext H ρ H' ρ:=⟨List.prefix_refl _,fun _ h=>h,fun _ h=>.inl h,fun a o e _=>h a o e,fun _ e=>.inl e,fun a o e=>⟨o,h a o e⟩,fun a o u e=>h a _ e⟩
section
variable {H H':Hp} {ρ ρ':Tk}
theorem zk (x:Ext H ρ H' ρ') (h:H a=some o) (n:a∉ρ):a∉ρ':=fun z=>by
 rcases z with z | z
 ·rcases x.new a z with z | z
  ·exact n (.inl z)
  ·rw [h] at z; cases z
 ·rcases x.hidN a z with z | z
  ·exact n (.inr z)
  ·rw [h] at z; cases z
theorem Ext.kp (x:Ext H ρ H' ρ') (h:H a=some o) (n:a∉ρ):H' a=some o:=x.keep a o h fun z=>n (.inl z)
mutual
theorem Rep.ext (x:Ext H ρ H' ρ'):∀ {p:PV} {v:V},Rep H ρ p v->Rep H' ρ' p v
 | .non,_,h=>h
 | .bl _,_,h=>h
 | .int _,_,h=>h
 | .str _,_,h=>h
 | .tup ps,v,h=>by
  obtain ⟨a,vs,e,s,n,r⟩:=h;exact ⟨a,vs,e,x.kp s n,zk x s n,RepL.ext x r⟩
 | .lst ps,v,h=>by
  obtain ⟨a,vs,e,s,n,r⟩:=h;exact ⟨a,vs,e,x.kp s n,zk x s n,RepL.ext x r⟩
 | .fro ps,v,h=>by
  obtain ⟨a,vs,e,s,n,r⟩:=h;rcases s with s | ⟨o,s⟩
  ·exact ⟨a,vs,e,.inl (x.kp s n),zk x s n,RepL.ext x r⟩
  ·exact ⟨a,vs,e,.inr ⟨o,x.kp s n⟩,zk x s n,RepL.ext x r⟩
 | .ref i,v,h=>by
  obtain ⟨a,e,rfl⟩:=h;obtain ⟨t,q⟩:=x.pre;refine ⟨a,?_,rfl⟩;rw [<- q,O3 (O0.mp e).1];exact e
 | .dic,v,h=>by
  obtain ⟨a,e,s,n⟩:=h;exact ⟨a,e,x.kp s n,zk x s n⟩
theorem RepL.ext (x:Ext H ρ H' ρ'):∀ {ps:List PV} {vs:List V},RepL H ρ ps vs->RepL H' ρ' ps vs
 | [],_,h=>h
 | p :: ps,vs,h=>by
  obtain ⟨v,r,e,h1,h2⟩:=h;exact ⟨v,r,e,Rep.ext x h1,RepL.ext x h2⟩
end
mutual
theorem Rep.hide (h:H a=none):∀ {p:PV} {v:V},Rep H ρ p v->Rep (upd H a o) (ρ.hide a) p v
 | .non,_,r=>r
 | .bl _,_,r=>r
 | .int _,_,r=>r
 | .str _,_,r=>r
 | .tup ps,v,⟨b,vs,e,s,n,r⟩=>⟨b,vs,e,by rw [Qb (Qe s h)]; exact s,fun z=>by
   rcases z with z | z
   ·exact n (.inl z)
   ·rcases D4.mp z with z | z
    ·exact Qe s h z
    ·exact n (.inr z),RepL.hide h r⟩
 | .lst ps,v,⟨b,vs,e,s,n,r⟩=>⟨b,vs,e,by rw [Qb (Qe s h)]; exact s,fun z=>by
   rcases z with z | z
   ·exact n (.inl z)
   ·rcases D4.mp z with z | z
    ·exact Qe s h z
    ·exact n (.inr z),RepL.hide h r⟩
 | .fro ps,v,⟨b,vs,e,s,n,r⟩=>by
   have ne:b≠a:=by
    rcases s with s | ⟨_,s⟩
    ·exact Qe s h
    ·exact Qe s h
   refine ⟨b,vs,e,?_,fun z=>?_,RepL.hide h r⟩
   ·rcases s with s | ⟨u,s⟩
    ·exact .inl (by rw [Qb ne]; exact s)
    ·exact .inr ⟨u,by rw [Qb ne]; exact s⟩
   ·rcases z with z | z
    ·exact n (.inl z)
    ·rcases D4.mp z with z | z
     ·exact ne z
     ·exact n (.inr z)
 | .ref i,v,r=>r
 | .dic,v,⟨b,e,s,n⟩=>⟨b,e,by rw [Qb (Qe s h)]; exact s,fun z=>by
   rcases z with z | z
   ·exact n (.inl z)
   ·rcases D4.mp z with z | z
    ·exact Qe s h z
    ·exact n (.inr z)⟩
theorem RepL.hide (h:H a=none):∀ {ps:List PV} {vs:List V},RepL H ρ ps vs->RepL (upd H a o) (ρ.hide a) ps vs
 | [],_,r=>r
 | p :: ps,_,⟨v,t,e,B,q⟩=>⟨v,t,e,Rep.hide h B,RepL.hide h q⟩
end
mutual
theorem Rep.rehide (h:a∈ρ.hid):∀ {p:PV} {v:V},Rep H ρ p v->Rep (upd H a o) ρ p v
 | .non,_,r=>r
 | .bl _,_,r=>r
 | .int _,_,r=>r
 | .str _,_,r=>r
 | .tup ps,v,⟨b,vs,e,s,n,r⟩=>⟨b,vs,e,by rw [Qb (show b≠a from fun z=>n (.inr (by rw [z]; exact h)))]; exact s,n,RepL.rehide h r⟩
 | .lst ps,v,⟨b,vs,e,s,n,r⟩=>⟨b,vs,e,by rw [Qb (show b≠a from fun z=>n (.inr (by rw [z]; exact h)))]; exact s,n,RepL.rehide h r⟩
 | .fro ps,v,⟨b,vs,e,s,n,r⟩=>by
   have ne:b≠a:=fun z=>n (.inr (by rw [z]; exact h))
   refine ⟨b,vs,e,?_,n,RepL.rehide h r⟩;rcases s with s | ⟨u,s⟩
   ·exact .inl (by rw [Qb ne]; exact s)
   ·exact .inr ⟨u,by rw [Qb ne]; exact s⟩
 | .ref i,v,r=>r
 | .dic,v,⟨b,e,s,n⟩=>⟨b,e,by rw [Qb (show b≠a from fun z=>n (.inr (by rw [z]; exact h)))]; exact s,n⟩
theorem RepL.rehide (h:a∈ρ.hid):∀ {ps:List PV} {vs:List V},RepL H ρ ps vs->RepL (upd H a o) ρ ps vs
 | [],_,r=>r
 | p :: ps,_,⟨v,t,e,B,q⟩=>⟨v,t,e,Rep.rehide h B,RepL.rehide h q⟩
end
mutual
theorem Rep.retr (h:a∈ρ.tr):∀ {p:PV} {v:V},Rep H ρ p v->Rep (upd H a o) ρ p v
 | .non,_,r=>r
 | .bl _,_,r=>r
 | .int _,_,r=>r
 | .str _,_,r=>r
 | .tup ps,v,⟨b,vs,e,s,n,r⟩=>⟨b,vs,e,by rw [Qb (show b≠a from fun z=>n (.inl (by rw [z]; exact h)))]; exact s,n,RepL.retr h r⟩
 | .lst ps,v,⟨b,vs,e,s,n,r⟩=>⟨b,vs,e,by rw [Qb (show b≠a from fun z=>n (.inl (by rw [z]; exact h)))]; exact s,n,RepL.retr h r⟩
 | .fro ps,v,⟨b,vs,e,s,n,r⟩=>by
   have ne:b≠a:=fun z=>n (.inl (by rw [z]; exact h))
   refine ⟨b,vs,e,?_,n,RepL.retr h r⟩;rcases s with s | ⟨u,s⟩
   ·exact .inl (by rw [Qb ne]; exact s)
   ·exact .inr ⟨u,by rw [Qb ne]; exact s⟩
 | .ref i,v,r=>r
 | .dic,v,⟨b,e,s,n⟩=>⟨b,e,by rw [Qb (show b≠a from fun z=>n (.inl (by rw [z]; exact h)))]; exact s,n⟩
theorem RepL.retr (h:a∈ρ.tr):∀ {ps:List PV} {vs:List V},RepL H ρ ps vs->RepL (upd H a o) ρ ps vs
 | [],_,r=>r
 | p :: ps,_,⟨v,t,e,B,q⟩=>⟨v,t,e,Rep.retr h B,RepL.retr h q⟩
end
mutual
theorem Rep.unhide {hs:List aA} (q:∀ a,a∈hs->a∈ρ.hid):∀ {p:PV} {v:V},Rep H ρ p v->Rep H ⟨ρ.tr,hs⟩ p v
 | .non,_,r=>r
 | .bl _,_,r=>r
 | .int _,_,r=>r
 | .str _,_,r=>r
 | .tup ps,v,⟨b,vs,e,s,n,r⟩=>⟨b,vs,e,s,fun z=>n (z.imp id (q _)),RepL.unhide q r⟩
 | .lst ps,v,⟨b,vs,e,s,n,r⟩=>⟨b,vs,e,s,fun z=>n (z.imp id (q _)),RepL.unhide q r⟩
 | .fro ps,v,⟨b,vs,e,s,n,r⟩=>⟨b,vs,e,s,fun z=>n (z.imp id (q _)),RepL.unhide q r⟩
 | .ref i,v,r=>r
 | .dic,v,⟨b,e,s,n⟩=>⟨b,e,s,fun z=>n (z.imp id (q _))⟩
theorem RepL.unhide {hs:List aA} (q:∀ a,a∈hs->a∈ρ.hid):∀ {ps:List PV} {vs:List V},RepL H ρ ps vs->RepL H ⟨ρ.tr,hs⟩ ps vs
 | [],_,r=>r
 | p :: ps,_,⟨v,t,e,G,B⟩=>⟨v,t,e,Rep.unhide q G,RepL.unhide q B⟩
end
theorem RepL.length:∀ {ps:List PV} {vs:List V},RepL H ρ ps vs->ps.length=vs.length
 | [],_,h=>by cases h; rfl
 | p :: ps,_,⟨v,r,rfl,_,h2⟩=>by rw [D7,D7,RepL.length h2]
theorem RepL.get:∀ {ps:List PV} {vs:List V} {i:Nat} {p:PV},RepL H ρ ps vs->ps[i]?=some p->∃ v,vs[i]?=some v/\Rep H ρ p v
 | [],_,_,_,_,e=>by simp at e
 | p :: ps,_,0,q,⟨v,r,rfl,h1,h2⟩,e=>by simp at e; subst e; exact ⟨v,rfl,h1⟩
 | p :: ps,_,i + 1,q,⟨v,r,rfl,h1,h2⟩,e=>by
  obtain ⟨u,e1,e2⟩:=RepL.get (i:=i) h2 (by simpa using e);exact ⟨u,by simpa using e1,e2⟩
theorem RepL.cons {p:PV} (h:Rep H ρ p v) (r:RepL H ρ ps vs):RepL H ρ (p :: ps) (v :: vs):=⟨v,vs,rfl,h,r⟩
theorem RepL.nil:RepL H ρ [] []:=rfl
theorem RepL.append:∀ {ps q:List PV} {vs us:List V},RepL H ρ ps vs->RepL H ρ q us->RepL H ρ (ps ++ q) (vs ++ us)
 | [],_,_,_,h,g=>by cases h; exact g
 | p :: ps,_,_,_,⟨v,r,rfl,h1,h2⟩,g=>⟨v,_,rfl,h1,RepL.append h2 g⟩
theorem RepL.take:∀ {ps:List PV} {vs:List V} (n:Nat),RepL H ρ ps vs->RepL H ρ (ps.take n) (vs.take n)
 | _,_,0,_=>rfl
 | [],_,n + 1,h=>by cases h; rfl
 | p :: ps,_,n + 1,⟨v,r,rfl,h1,h2⟩=>⟨v,_,rfl,h1,RepL.take n h2⟩
theorem RepL.drop:∀ {ps:List PV} {vs:List V} (n:Nat),RepL H ρ ps vs->RepL H ρ (ps.drop n) (vs.drop n)
 | _,_,0,h=>h
 | [],_,n + 1,h=>by cases h; rfl
 | p :: ps,_,n + 1,⟨v,r,rfl,h1,h2⟩=>RepL.drop n h2
theorem RepL.set {p:PV} (h:Rep H ρ p v):∀ {ps:List PV} {vs:List V} (i:Nat),RepL H ρ ps vs->RepL H ρ (ps.set i p) (vs.set i v)
 | [],_,_,g=>by cases g; rfl
 | q :: ps,_,0,⟨u,r,rfl,h1,h2⟩=>⟨v,r,rfl,h,h2⟩
 | q :: ps,_,i + 1,⟨u,r,rfl,h1,h2⟩=>⟨u,_,rfl,h1,RepL.set h i h2⟩
theorem RepL.rep (h:RepL H ρ ps vs):∀ n,RepL H ρ (List.replicate n ps).flatten (List.replicate n vs).flatten
 | 0=>rfl
 | n + 1=>by rw [List.replicate_succ,List.replicate_succ,List.flatten_cons,List.flatten_cons]; exact h.append (RepL.rep h n)
theorem RepL.toInts:∀ {ns:List Int} {vs:List V},RepL H ρ (ns.map .int) vs->vs=ns.map V.int
 | [],_,h=>h
 | n :: ns,_,⟨v,r,rfl,h1,h2⟩=>by
  have e:v=V.int n:=h1;rw [RepL.toInts h2,e]; rfl
theorem RepL.toBls:∀ {ns:List Bool} {vs:List V},RepL H ρ (ns.map .bl) vs->vs=ns.map V.bl
 | [],_,h=>h
 | n :: ns,_,⟨v,r,rfl,h1,h2⟩=>by
  have e:v=V.bl n:=h1;rw [RepL.toBls h2,e]; rfl
end
def RepD {κ:Type} (H:Hp) (ρ:Tk) (kvs:List (κ × PV)) (vs:List (κ × V)):Prop:=vs.map Prod.fst=kvs.map Prod.fst/\RepL H ρ (kvs.map Prod.snd) (vs.map Prod.snd)
theorem RepD.ext {ρ':Tk} {kvs:List (κ × PV)} {vs:List (κ × V)} (x:Ext H ρ H' ρ') (r:RepD H ρ kvs vs):RepD H' ρ' kvs vs:=⟨r.1,r.2.ext x⟩
theorem RepD.length {kvs:List (κ × PV)} {vs:List (κ × V)} (r:RepD H ρ kvs vs):kvs.length=vs.length:=by
 have:=congrArg List.length r.1;rw [O2,O2] at this;exact this.symm
def CellR (H:Hp) (ρ:Tk) (a:aA):Cell->Prop
 | .lst ps=>∃ vs,H a=some (.lst vs)/\RepL H ρ ps vs
 | .dic kvs=>∃ vs,H a=some (.dK vs)/\RepD H ρ kvs vs
 | .dtp kvs=>∃ vs,H a=some (.dT vs)/\RepD H ρ kvs vs
 | .frd kvs=>∃ vs,(∃ o,H a=some (.frz o (.dK vs)))/\RepD H ρ kvs vs
 | .obj C fs=>∃ vs,(∃ dx,H a=some (.ins C dx vs))/\RepD H ρ fs vs
theorem CellR.dom :∀ {c:Cell},CellR H ρ a c->∃ o,H a=some o
 | .lst _,⟨_,e,_⟩=>⟨_,e⟩
 | .dic _,⟨_,e,_⟩=>⟨_,e⟩
 | .dtp _,⟨_,e,_⟩=>⟨_,e⟩
 | .frd _,⟨_,⟨_,e⟩,_⟩=>⟨_,e⟩
 | .obj _ _,⟨_,⟨_,e⟩,_⟩=>⟨_,e⟩
theorem CellR.ext {ρ':Tk} (x:Ext H ρ H' ρ') (k:∀ o,H a=some o->H' a=some o):∀ {c:Cell},CellR H ρ a c->CellR H' ρ' a c
 | .lst _,⟨vs,e,r⟩=>⟨vs,k _ e,r.ext x⟩
 | .dic _,⟨vs,e,r⟩=>⟨vs,k _ e,r.ext x⟩
 | .dtp _,⟨vs,e,r⟩=>⟨vs,k _ e,r.ext x⟩
 | .frd _,⟨vs,⟨o,e⟩,r⟩=>⟨vs,⟨o,k _ e⟩,r.ext x⟩
 | .obj _ _,⟨vs,⟨o,e⟩,r⟩=>⟨vs,⟨o,k _ e⟩,r.ext x⟩
structure Rel (H:Hp) (ρ:Tk) (st:Q1):Prop where
 len:ρ.tr.length=st.length
 nd:ρ.tr.Nodup
 hd:∀ a∈ρ.hid,∃ o,H a=some o/\∀ xs,o≠.tup xs
 ap:∀ a∈ρ.hid,a∉ρ.tr
 cell:∀ (i:Nat) (a:aA) (c:Cell),ρ.tr[i]?=some a->st[i]?=some c->CellR H ρ a c
section
variable {H H':Hp} {ρ ρ':Tk} {st st':Q1}
theorem Rel.lst (R:Rel H ρ st) {i:Nat} (h:st[i]?=some (.lst ps)):∃ a vs,ρ.tr[i]?=some a/\H a=some (.lst vs)/\RepL H ρ ps vs:=by
 have hi:i < ρ.tr.length:=by rw [R.len]; exact (O0.mp h).1
 have e:ρ.tr[i]?=some ρ.tr[i]:=O5 hi;obtain ⟨vs,e1,e2⟩:=R.cell i _ _ e h;exact ⟨_,vs,e,e1,e2⟩
theorem Rel.dic (R:Rel H ρ st) {i:Nat} {kvs:List (Key × PV)} (h:st[i]?=some (.dic kvs)):∃ a vs,ρ.tr[i]?=some a/\H a=some (.dK vs)/\RepD H ρ kvs vs:=by
 have hi:i < ρ.tr.length:=by rw [R.len]; exact (O0.mp h).1
 have e:ρ.tr[i]?=some ρ.tr[i]:=O5 hi;obtain ⟨vs,e1,e2⟩:=R.cell i _ _ e h;exact ⟨_,vs,e,e1,e2⟩
theorem Rel.frd (R:Rel H ρ st) {i:Nat} {kvs:List (Key × PV)} (h:st[i]?=some (.frd kvs)):∃ a vs o,ρ.tr[i]?=some a/\H a=some (.frz o (.dK vs))/\RepD H ρ kvs vs:=by
 have hi:i < ρ.tr.length:=by rw [R.len]; exact (O0.mp h).1
 have e:ρ.tr[i]?=some ρ.tr[i]:=O5 hi;obtain ⟨vs,⟨o,e1⟩,e2⟩:=R.cell i _ _ e h;exact ⟨_,vs,o,e,e1,e2⟩
theorem Rel.obj (R:Rel H ρ st) {i:Nat} {C:aA} {fs:List (Str × PV)} (h:st[i]?=some (.obj C fs)):∃ a vs dx,ρ.tr[i]?=some a/\H a=some (.ins C dx vs)/\RepD H ρ fs vs:=by
 have hi:i < ρ.tr.length:=by rw [R.len]; exact (O0.mp h).1
 have e:ρ.tr[i]?=some ρ.tr[i]:=O5 hi;obtain ⟨vs,⟨o,e1⟩,e2⟩:=R.cell i _ _ e h;exact ⟨_,vs,o,e,e1,e2⟩
theorem Rel.dom (R:Rel H ρ st) (h:a∈ρ.tr):∃ o,H a=some o:=by
 obtain ⟨i,hi,e⟩:=List.getElem_of_mem h;have hs:i < st.length:=by rw [<- R.len]; exact hi
 have q:=R.cell i a st[i] (by rw [O5 hi,e]) (O5 hs);exact q.dom
theorem Rel.fresh (R:Rel H ρ st) (h:H p=none):p∉ρ:=fun z=>by
 rcases z with z | z
 ·obtain ⟨vs,q⟩:=R.dom z;rw [h] at q; cases q
 ·obtain ⟨o,q,_⟩:=R.hd p z;rw [h] at q; cases q
theorem Rel.later (R:Rel H ρ st) (x:Ext H ρ H' ρ) (k:∀ a o,a∈ρ.tr->H a=some o->H' a=some o):Rel H' ρ st where
 len:=R.len
 nd:=R.nd
 hd:=fun a q=>let ⟨o,e,n⟩:=R.hd a q; ⟨o,x.keep a o e (R.ap a q),n⟩
 ap:=R.ap
 cell:=fun i a c h1 h2=>by
  exact (R.cell i a c h1 h2).ext x fun o e=>k a o (D6 h1) e
end
theorem Rel.add (R:Rel H ρ st) (h:H p=none):Rel (upd H p o) ρ st:=
 R.later (Ext.add h) fun a u q e=>by rw [Qb (Qe e h)]; exact e
theorem Rel.same (R:Rel H ρ st) (h:Same H H'):Rel H' ρ st:=R.later (Ext.same h) fun a u _ e=>h a u e
theorem Rel.addC (R:Rel H ρ st) (h:H p=none) (r:CellR (upd H p o) (ρ.add p) p cl):Rel (upd H p o) (ρ.add p) (st ++ [cl]) where
 len:=by show (ρ.tr ++ [p]).length=_; rw [O6,O6,R.len]; rfl
 nd:=List.nodup_append.mpr ⟨R.nd,by simp,fun a q b G e=>by
  have:b=p:=by simpa using G
  subst this; subst e;exact R.fresh h (.inl q)⟩
 hd:=fun a q=>let ⟨o,e,n⟩:=R.hd a q; ⟨o,by rw [Qb (Qe e h)]; exact e,n⟩
 ap:=fun a q z=>by
  rcases F1.mp z with z | z
  ·exact R.ap a q z
  ·have:a=p:=by simpa using z
   subst this;exact R.fresh h (.inr q)
 cell:=fun i a c h1 h2=>by
  have h1:(ρ.tr ++ [p])[i]?=some a:=h1
  by_cases hi:i < st.length
  ·rw [O3 (by rw [R.len]; exact hi)] at h1;rw [O3 hi] at h2;exact (R.cell i a c h1 h2).ext (Ext.addT h) fun u e=>by rw [Qb (Qe e h)]; exact e
  ·rw [D0 (by rw [R.len]; omega)] at h1;rw [D0 (by omega)] at h2;have B:i - st.length=0:=by
    rcases Nat.eq_zero_or_pos (i - st.length) with z | z
    ·exact z
    ·rw [List.getElem?_eq_none (by simp; omega)] at h2; cases h2
   rw [R.len,B] at h1;rw [B] at h2;simp at h1 h2;subst h1; subst h2;exact r
theorem Q82 {α:Type} {l:List α} (h:l.Nodup) {i j:Nat} (hi:i < l.length) (q:j < l.length) (e:l[i]=l[j]):i=j:=by
 rcases Nat.lt_trichotomy i j with z | z | z
 ·exact absurd e ((List.pairwise_iff_getElem.mp h) i j hi q z)
 ·exact z
 ·exact absurd e.symm ((List.pairwise_iff_getElem.mp h) j i q hi z)
theorem Ext.put {o':HO} (h:a∈ρ.tr) (e:H a=some o) (B:∀ q u,o≠.frz q u:=by intro _ _ z; cases z):Ext H ρ (upd H a o') ρ where
 pre:=List.prefix_refl _
 hidM:=fun _ h=>h
 hidN:=fun _ h=>.inl h
 keep:=fun b u q n=>by rw [Qb (show b≠a from fun z=>n (by rw [z]; exact h))]; exact q
 new:=fun b q=>.inl q
 old:=fun b u q=>by
  by_cases z:b=a
  ·exact ⟨o',by rw [z]; exact Qj⟩
  ·exact ⟨u,by rw [Qb z]; exact q⟩
 frz:=fun b q u k=>by
  by_cases z:b=a
  ·rw [z,e] at k; cases k; exact absurd rfl (B _ _)
  ·rw [Qb z]; exact k
theorem Rel.putC (R:Rel H ρ st) {i:Nat} {o':HO} (hi:ρ.tr[i]?=some a) (e:H a=some o) (r:CellR (upd H a o') ρ a cl):Rel (upd H a o') ρ (st.set i cl) where
 len:=by rw [D9]; exact R.len
 nd:=R.nd
 hd:=fun b B=>let ⟨u,q,n⟩:=R.hd b B; ⟨u,by rw [Qb (show b≠a from fun z=>R.ap b B (by rw [z]; exact D6 hi))]; exact q,n⟩
 ap:=R.ap
 cell:=fun j b c h1 h2=>by
  by_cases J:i=j
  ·subst J;rw [hi] at h1; cases h1;rw [E3 (by rw [<- R.len]; exact (O0.mp hi).1)] at h2;cases h2;exact r
  ·rw [O7 J] at h2;have q:=R.cell j b c h1 h2;have B:b≠a:=fun z=>by
    subst z;have l1:=(O0.mp hi);have l2:=(O0.mp h1);exact J (Q82 R.nd l1.1 l2.1 (l1.2.trans l2.2.symm))
   have G:=D6 hi;cases c with
   | lst ps=>
    obtain ⟨vs,e1,e2⟩:=q;exact ⟨vs,by rw [Qb B]; exact e1,e2.retr G⟩
   | dic ps=>
    obtain ⟨vs,e1,e2⟩:=q;exact ⟨vs,by rw [Qb B]; exact e1,e2.1,e2.2.retr G⟩
   | dtp ps=>
    obtain ⟨vs,e1,e2⟩:=q;exact ⟨vs,by rw [Qb B]; exact e1,e2.1,e2.2.retr G⟩
   | frd ps=>
    obtain ⟨vs,⟨I,e1⟩,e2⟩:=q;exact ⟨vs,⟨I,by rw [Qb B]; exact e1⟩,e2.1,e2.2.retr G⟩
   | obj C ps=>
    obtain ⟨vs,⟨I,e1⟩,e2⟩:=q;exact ⟨vs,⟨I,by rw [Qb B]; exact e1⟩,e2.1,e2.2.retr G⟩
theorem Rel.put (R:Rel H ρ st) {i:Nat} (hi:ρ.tr[i]?=some a) (e:H a=some o) (r:RepL H ρ ps vs):Rel (upd H a (.lst vs)) ρ (st.set i (.lst ps)):=
 R.putC hi e ⟨vs,Qj,r.retr (D6 hi)⟩
theorem Rel.hide (R:Rel H ρ st) (h:H p=none) (J:∀ xs,o≠.tup xs:=by intro _ z; cases z):Rel (upd H p o) (ρ.hide p) st:=by
 have x:Ext H ρ (upd H p o) ρ:=Ext.add h;have I:=R.add (p:=p) (o:=o) h;refine ⟨I.len,I.nd,fun a B=>?_,fun a B z=>?_,fun i a c h1 h2=>?_⟩
 ·rcases D4.mp B with rfl | B
  ·exact ⟨o,Qj,J⟩
  ·exact I.hd a B
 ·rcases D4.mp B with rfl | B
  ·exact R.fresh h (.inl z)
  ·exact R.ap a B z
 ·have q:=R.cell i a c h1 h2;cases c with
  | lst ps=>
   obtain ⟨vs,e1,e2⟩:=q;exact ⟨vs,by rw [Qb (Qe e1 h)]; exact e1,e2.hide h⟩
  | dic ps=>
   obtain ⟨vs,e1,e2⟩:=q;exact ⟨vs,by rw [Qb (Qe e1 h)]; exact e1,e2.1,e2.2.hide h⟩
  | dtp ps=>
   obtain ⟨vs,e1,e2⟩:=q;exact ⟨vs,by rw [Qb (Qe e1 h)]; exact e1,e2.1,e2.2.hide h⟩
  | frd ps=>
   obtain ⟨vs,⟨G,e1⟩,e2⟩:=q;exact ⟨vs,⟨G,by rw [Qb (Qe e1 h)]; exact e1⟩,e2.1,e2.2.hide h⟩
  | obj C ps=>
   obtain ⟨vs,⟨G,e1⟩,e2⟩:=q;exact ⟨vs,⟨G,by rw [Qb (Qe e1 h)]; exact e1⟩,e2.1,e2.2.hide h⟩
theorem Rel.rehide (R:Rel H ρ st) (h:p∈ρ.hid) (I:∀ xs,o≠.tup xs:=by intro _ z; cases z):Rel (upd H p o) ρ st:=by
 refine ⟨R.len,R.nd,fun a G=>?_,R.ap,fun i a c h1 h2=>?_⟩
 ·by_cases e:a=p
  ·exact ⟨o,by rw [e]; exact Qj,I⟩
  ·obtain ⟨u,q,n⟩:=R.hd a G;exact ⟨u,by rw [Qb e]; exact q,n⟩
 ·have q:=R.cell i a c h1 h2;have ne:a≠p:=fun z=>R.ap p h (by rw [<- z]; exact D6 h1)
  cases c with
  | lst ps=>
   obtain ⟨vs,e1,e2⟩:=q;exact ⟨vs,by rw [Qb ne]; exact e1,e2.rehide h⟩
  | dic ps=>
   obtain ⟨vs,e1,e2⟩:=q;exact ⟨vs,by rw [Qb ne]; exact e1,e2.1,e2.2.rehide h⟩
  | dtp ps=>
   obtain ⟨vs,e1,e2⟩:=q;exact ⟨vs,by rw [Qb ne]; exact e1,e2.1,e2.2.rehide h⟩
  | frd ps=>
   obtain ⟨vs,⟨B,e1⟩,e2⟩:=q;exact ⟨vs,⟨B,by rw [Qb ne]; exact e1⟩,e2.1,e2.2.rehide h⟩
  | obj C ps=>
   obtain ⟨vs,⟨B,e1⟩,e2⟩:=q;exact ⟨vs,⟨B,by rw [Qb ne]; exact e1⟩,e2.1,e2.2.rehide h⟩
theorem Rel.unhide {hs:List aA} (B:∀ a,a∈hs->a∈ρ.hid) (R:Rel H ρ st):Rel H ⟨ρ.tr,hs⟩ st:=by
 refine ⟨R.len,R.nd,fun a G=>R.hd a (B a G),fun a G=>R.ap a (B a G),fun i a c h1 h2=>?_⟩;have q:=R.cell i a c h1 h2;cases c with
 | lst ps=>
  obtain ⟨vs,e1,e2⟩:=q;exact ⟨vs,e1,RepL.unhide B e2⟩
 | dic ps=>
  obtain ⟨vs,e1,e2⟩:=q;exact ⟨vs,e1,e2.1,RepL.unhide B e2.2⟩
 | dtp ps=>
  obtain ⟨vs,e1,e2⟩:=q;exact ⟨vs,e1,e2.1,RepL.unhide B e2.2⟩
 | frd ps=>
  obtain ⟨vs,e1,e2⟩:=q;exact ⟨vs,e1,e2.1,RepL.unhide B e2.2⟩
 | obj C ps=>
  obtain ⟨vs,e1,e2⟩:=q;exact ⟨vs,e1,e2.1,RepL.unhide B e2.2⟩
theorem Ext.hide (h:H p=none):Ext H ρ (upd H p o) (ρ.hide p) where
 pre:=List.prefix_refl _
 hidM:=fun _ h=>D1 _ h
 hidN:=fun a q=>by
  rcases D4.mp q with rfl | q
  ·exact .inr h
  ·exact .inl q
 keep:=fun a u e _=>by rw [Qb (Qe e h)]; exact e
 new:=fun a e=>.inl e
 old:=fun a u e=>⟨u,by rw [Qb (Qe e h)]; exact e⟩
 frz:=fun a o u e=>by rw [Qb (Qe e h)]; exact e
theorem Ext.put0 {H1:Hp} {ρ1:Tk} (x:Ext H ρ H1 ρ1) (h:H p=none):Ext H ρ (upd H1 p o) ρ1 where
 pre:=x.pre
 hidM:=x.hidM
 hidN:=x.hidN
 keep:=fun a u e n=>by rw [Qb (Qe e h)]; exact x.keep a u e n
 new:=x.new
 old:=fun a u e=>by rw [Qb (Qe e h)]; exact x.old a u e
 frz:=fun a o u e=>by rw [Qb (Qe e h)]; exact x.frz a o u e
theorem Ext.unhide {H1:Hp} {ρ1:Tk} (x:Ext H ρ H1 ρ1):Ext H ρ H1 ⟨ρ1.tr,ρ.hid⟩ where
 pre:=x.pre
 hidM:=fun _ h=>h
 hidN:=fun _ h=>.inl h
 keep:=x.keep
 new:=x.new
 old:=x.old
 frz:=x.frz
def EnvR (H:Hp) (ρ:Tk) (Γ:Gam) (σ:St):Prop:=Γ.length=σ.length/\∀ (i:Nat) (p:PV),Γ[i]?=some (some p)->∃ v,σ[i]?=some (some v)/\Rep H ρ p v
theorem EnvR.ext {ρ':Tk} (x:Ext H ρ H' ρ') (h:EnvR H ρ Γ σ):EnvR H' ρ' Γ σ:=
 ⟨h.1,fun i p e=>let ⟨v,a,b⟩:=h.2 i p e; ⟨v,a,b.ext x⟩⟩
theorem EnvR.hide (n:H a=none) (h:EnvR H ρ Γ σ):EnvR (upd H a o) (ρ.hide a) Γ σ:=⟨h.1,fun i p e=>let ⟨v,a,b⟩:=h.2 i p e; ⟨v,a,b.hide n⟩⟩
theorem EnvR.rehide (n:a∈ρ.hid) (h:EnvR H ρ Γ σ):EnvR (upd H a o) ρ Γ σ:=⟨h.1,fun i p e=>let ⟨v,a,b⟩:=h.2 i p e; ⟨v,a,b.rehide n⟩⟩
theorem EnvR.set {p:PV} (h:EnvR H ρ Γ σ) (r:Rep H ρ p v) (i:Nat):EnvR H ρ (Γ.set i (some p)) (σ.set i (some v)):=by
 refine ⟨by rw [D9,D9]; exact h.1,fun j q e=>?_⟩;rw [List.getElem?_set] at e;rw [List.getElem?_set]
 by_cases B:i=j
 ·subst B;simp only [if_true] at e ⊢
  by_cases hl:i < Γ.length
  ·rw [bN hl] at e; cases e;rw [bN (by rw [<- h.1]; exact hl)];exact ⟨v,rfl,r⟩
  ·rw [bO hl] at e; cases e
 ·rw [bO B] at e ⊢;exact h.2 j q e
end
def Res.bind {α β:Type} (r:Res α) (f:α->Q1->Res β):Res β:=match r with
 | .ok a st=>f a st
 | .exc x st=>.exc x st
 | .stuck=>.stuck
def okO {α:Type} (st:Q1):Option α->Res α
 | some a=>.ok a st
 | none=>.stuck
section
variable (X:Cx)
def WE (e:aD):TE:=fun σ H Q=>∀ (pins:List (aA × Obj)) (s:aC),Inv X pins σ H s->aI (aJ X.prog X.w) X.A (aM e X.env) (EP X pins σ Q) X.xe s
def WT (e:aD):TT:=fun σ H Q=>∀ (pins:List (aA × Obj)) (s:aC),Inv X pins σ H s->aI (aJ X.prog X.w) X.A (isTrue e X.env (aM e X.env)) (TP X pins σ Q) X.xe s
def WW (e:aD):TT:=fun σ H Q=>∀ (wh:Sem aB) (pins:List (aA × Obj)) (s:aC),Inv X pins σ H s->aI (aJ X.prog X.w) X.A (isTrue e X.env wh) (TP X pins σ Q) X.xe s
def WA (es:List aD):TA:=fun σ H Q=>∀ (pos:Pos) (pins:List (aA × Obj)) (s:aC),Inv X pins σ H s->aI (aJ X.prog X.w) X.A (spliced (aU pos (aO es X.env))) (AP X pins σ Q) X.xe s
def WS (st:aK):TS:=fun D σ H=>∀ (pins:List (aA × Obj)) (s:aC),Inv X pins σ H s->aI (aJ X.prog X.w) X.A (exec st X.env) (SP X pins D) X.xe s
def WB (st:List aK):TS:=fun D σ H=>∀ (pins:List (aA × Obj)) (s:aC),Inv X pins σ H s->aI (aJ X.prog X.w) X.A (execs st X.env) (SP X pins D) X.xe s
def WI (tg iter : aD) : TI := fun σ H R => ∀ (pins : List (aA × Obj)) (s : aC), Inv X pins σ H s ->
  aI (aJ X.prog X.w) X.A (aM iter X.env) (fun v s1=>aI (aJ X.prog X.w) X.A (pyIter v) (PIE X pins σ tg R) X.xe s1) X.xe s
def WO (f:aB->aB->Sem aB):R2:=fun x y H Q=>∀ (pins:List (aA × Obj)) (s:aC) (σ:St) (v u:aB),Inv X pins σ H s->RelV x v->RelV y u->aI (aJ X.prog X.w) X.A (f v u) (EP X pins σ Q) X.xe s
def WC (f:aB):List V->Hp->VK->Prop:=fun xs H Q=>∀ (pins:List (aA × Obj)) (s:aC) (σ:St) (us:List aB),Inv X pins σ H s->Vals xs us->aI (aJ X.prog X.w) X.A (call f us) (EP X pins σ Q) X.xe s
end
variable {X:Cx}
theorem Yi :PE X e (WE X e):=fun pins s _ _ _ I h=>h pins s I
theorem Qaf :PT X e (WT X e):=fun pins s _ _ _ I h=>h pins s I
theorem Qvz :PW X e (WW X e):=fun q pins s _ _ _ I h=>h q pins s I
theorem Q24 :PA X es (WA X es):=fun pos pins s _ _ _ I h=>h pos pins s I
theorem Qw0 {st:aK}:PS X st (WS X st):=fun pins s _ _ _ I h=>h pins s I
theorem Q59 {st:List aK}:PSs X st (WB X st):=fun pins s _ _ _ I h=>h pins s I
theorem Qsn {tg iter:aD}:PI X tg iter (WI X tg iter):=fun pins s _ _ _ I h=>h pins s I
theorem Qch :OpR X f (WO X f):=fun pins s σ _ _ _ v u _ I B q h=>h pins s σ v u I B q
theorem Qk6 {f:aB}:K1 X f (WC X f):=fun pins s σ _ _ us _ I r h=>h pins s σ us I r
theorem WE.of {t:TE} {Q:VK} (h:PE X e t) (q:t σ H Q):WE X e σ H Q:=fun pins s I=>h pins s σ H Q I q
theorem WT.of {t:TT} (h:PT X e t) (q:t σ H Q):WT X e σ H Q:=fun pins s I=>h pins s σ H Q I q
theorem WW.of {t:TT} (h:PW X e t) (q:t σ H Q):WW X e σ H Q:=fun B pins s I=>h B pins s σ H Q I q
theorem WA.of {t:TA} {Q:List V->Hp->Prop} (h:PA X es t) (q:t σ H Q):WA X es σ H Q:=fun pos pins s I=>h pos pins s σ H Q I q
theorem WS.of {st:aK} {t:TS} (h:PS X st t) (q:t D σ H):WS X st D σ H:=fun pins s I=>h pins s σ H D I q
theorem WB.of {st:List aK} {t:TS} (h:PSs X st t) (q:t D σ H):WB X st D σ H:=fun pins s I=>h pins s σ H D I q
theorem WI.of {tg iter:aD} {t:TI} {R:It->Hp->Prop} (h:PI X tg iter t) (q:t σ H R):WI X tg iter σ H R:=fun pins s I=>h pins s σ H R I q
theorem WO.of {r:R2} {x y:V} {Q:VK} (h:OpR X f r) (q:r x y H Q):WO X f x y H Q:=fun pins s σ v u I G B=>h pins s σ H x y v u Q I G B q
theorem WC.of {f:aB} {r:List V->Hp->VK->Prop} {xs:List V} {Q:VK} (h:K1 X f r) (q:r xs H Q):WC X f xs H Q:=fun pins s σ us I B=>h pins s σ H xs us Q I B q
def XFs (H:Hp) (ρ:Tk):Option (Str × PV)->Option aA->Prop
 | none,dv=>dv=none
 | some (n,p),dv=>∃ dx v,dv=some dx/\H dx=some (.xd [(n,v)])/\dx∉ρ/\Rep H ρ p v
def Acc {α:Type} (mg:Str->Option aB) (E:XK) (H:Hp) (ρ:Tk) (P:α->Q1->Hp->Tk->Prop):Res α->Prop
 | .ok a st=>∀ H' ρ',Ext H ρ H' ρ'->Rel H' ρ' st->P a st H' ρ'
 | .exc x st=>∀ C dv H' ρ',mg x.cls=some (.ref C)->Ext H ρ H' ρ'->Rel H' ρ' st->XFs H' ρ' x.fs dv->E (.ref C) dv H'
 | .stuck=>False
variable {α β:Type} {mg:Str->Option aB} {E:XK} {H H1:Hp} {ρ ρ1:Tk}
theorem Acc.mono {P G:α->Q1->Hp->Tk->Prop} {r:Res α} (h:Acc mg E H ρ P r) (x:Ext H ρ H1 ρ1) (k:∀ a st H' ρ',P a st H' ρ'->G a st H' ρ'):Acc mg E H1 ρ1 G r:=by
 cases r with
 | ok a st=>exact fun H' ρ' q B=>k _ _ _ _ (h H' ρ' (x.trans q) B)
 | exc e st=>exact fun C dv H' ρ' m q B f=>h C dv H' ρ' m (x.trans q) B f
 | stuck=>exact h
theorem Acc.later {P:α->Q1->Hp->Tk->Prop} {r:Res α} (h:Acc mg E H ρ P r) (x:Ext H ρ H1 ρ1):Acc mg E H1 ρ1 P r:=h.mono x fun _ _ _ _ p=>p
theorem Acc.bind {P:β->Q1->Hp->Tk->Prop} {r:Res α} {f:α->Q1->Res β} (h:Acc mg E H ρ P (r.bind f)):Acc mg E H ρ (fun a q H1 ρ1=>Acc mg E H1 ρ1 P (f a q)) r:=by
 cases r with
 | ok a st=>exact fun H' ρ' B G=>Acc.later (show Acc mg E H ρ P (f a st) from h) B
 | exc e st=>exact h
 | stuck=>exact h
abbrev QV (Q:VK):PV->Q1->Hp->Tk->Prop:=fun p _ H' ρ'=>∀ v,Rep H' ρ' p v->Q v H'
abbrev QL (Q:List V->Hp->Prop):List PV->Q1->Hp->Tk->Prop:=fun ps _ H' ρ'=>∀ vs,RepL H' ρ' ps vs->Q vs H'
abbrev QB (Q:Bool->Hp->Prop):Bool->Q1->Hp->Tk->Prop:=fun b _ H' _=>Q b H'
structure SimE (X:Cx) (E:XK) (e:aD) (m:ME):Prop where
 run:∀ (Γ:Gam) (σ:St) (H:Hp) (ρ:Tk) (st:Q1) (Q:VK),Rel H ρ st->EnvR H ρ Γ σ->Acc X.mg E H ρ (QV Q) (m Γ st)->WE X e σ H Q
structure SimT (X:Cx) (E:XK) (e:aD) (m:Gam->Q1->Res Bool):Prop where
 run:∀ (Γ:Gam) (σ:St) (H:Hp) (ρ:Tk) (st:Q1) (Q:Bool->Hp->Prop),Rel H ρ st->EnvR H ρ Γ σ->Acc X.mg E H ρ (QB Q) (m Γ st)->WT X e σ H Q
structure SimW (X:Cx) (E:XK) (e:aD) (m:Gam->Q1->Res Bool):Prop where
 run:∀ (Γ:Gam) (σ:St) (H:Hp) (ρ:Tk) (st:Q1) (Q:Bool->Hp->Prop),Rel H ρ st->EnvR H ρ Γ σ->Acc X.mg E H ρ (QB Q) (m Γ st)->WW X e σ H Q
structure SimA (X:Cx) (E:XK) (es:List aD) (m:Gam->Q1->Res (List PV)):Prop where
 run:∀ (Γ:Gam) (σ:St) (H:Hp) (ρ:Tk) (st:Q1) (Q:List V->Hp->Prop),Rel H ρ st->EnvR H ρ Γ σ->Acc X.mg E H ρ (QL Q) (m Γ st)->WA X es σ H Q
abbrev OP:=Q1->PV->PV->Res PV
structure OpS (X:Cx) (E:XK) (f:aB->aB->Sem aB) (o:OP):Prop where
 run:∀ (H:Hp) (ρ:Tk) (st:Q1) (p q:PV) (x y:V) (Q:VK),Rel H ρ st->Rep H ρ p x->Rep H ρ q y->Acc X.mg E H ρ (QV Q) (o st p q)->WO X f x y H Q
abbrev CF:=Q1->List PV->Res PV
structure CallS (X:Cx) (E:XK) (f:aB) (o:CF):Prop where
 run:∀ (H:Hp) (ρ:Tk) (st:Q1) (ps:List PV) (xs:List V) (Q:VK),Rel H ρ st->RepL H ρ ps xs->Acc X.mg E H ρ (QV Q) (o st ps)->WC X f xs H Q
variable {Γ:Gam} {σ:St} {st:Q1}
theorem SimE.use {m:ME} (s:SimE X E e m) {P:PV->Q1->Hp->Tk->Prop} {Q:VK} (R:Rel H ρ st) (G:EnvR H ρ Γ σ) (h:Acc X.mg E H ρ P (m Γ st))
  (k:∀ p q H1 ρ1 v,Ext H ρ H1 ρ1->Rel H1 ρ1 q->EnvR H1 ρ1 Γ σ->Rep H1 ρ1 p v->P p q H1 ρ1->Q v H1):WE X e σ H Q:=by
 refine s.run Γ σ H ρ st Q R G ?_;cases r:m Γ st with
 | ok p q=>rw [r] at h; exact fun H' ρ' B I v J=>k p q H' ρ' v B I (G.ext B) J (h H' ρ' B I)
 | exc e st=>rw [r] at h; exact h
 | stuck=>rw [r] at h; exact h
theorem SimE.use' {m:ME} (s:SimE X E e m) {P:PV->Q1->Hp->Tk->Prop} {Q:VK} (R:Rel H ρ st) (G:EnvR H ρ Γ σ) (h:Acc X.mg E H ρ P (m Γ st))
  (k:∀ p q H1 ρ1 v,m Γ st=.ok p q->Ext H ρ H1 ρ1->Rel H1 ρ1 q->EnvR H1 ρ1 Γ σ->Rep H1 ρ1 p v->P p q H1 ρ1->Q v H1):WE X e σ H Q:=by
 refine s.run Γ σ H ρ st Q R G ?_;cases r:m Γ st with
 | ok p q=>rw [r] at h; exact fun H' ρ' B I v J=>k p q H' ρ' v r B I (G.ext B) J (h H' ρ' B I)
 | exc e st=>rw [r] at h; exact h
 | stuck=>rw [r] at h; exact h
theorem SimA.use' {m:Gam->Q1->Res (List PV)} (s:SimA X E es m) {P:List PV->Q1->Hp->Tk->Prop} {Q:List V->Hp->Prop} (R:Rel H ρ st) (G:EnvR H ρ Γ σ) (h:Acc X.mg E H ρ P (m Γ st))
  (k:∀ ps q H1 ρ1 vs,m Γ st=.ok ps q->Ext H ρ H1 ρ1->Rel H1 ρ1 q->EnvR H1 ρ1 Γ σ->RepL H1 ρ1 ps vs->P ps q H1 ρ1->Q vs H1):WA X es σ H Q:=by
 refine s.run Γ σ H ρ st Q R G ?_;cases r:m Γ st with
 | ok p q=>rw [r] at h; exact fun H' ρ' B I v J=>k p q H' ρ' v r B I (G.ext B) J (h H' ρ' B I)
 | exc e st=>rw [r] at h; exact h
 | stuck=>rw [r] at h; exact h
theorem SimT.use {m:Gam->Q1->Res Bool} (s:SimT X E e m) {P:Bool->Q1->Hp->Tk->Prop} {Q:Bool->Hp->Prop} (R:Rel H ρ st) (G:EnvR H ρ Γ σ) (h:Acc X.mg E H ρ P (m Γ st))
  (k:∀ p q H1 ρ1,Ext H ρ H1 ρ1->Rel H1 ρ1 q->EnvR H1 ρ1 Γ σ->P p q H1 ρ1->Q p H1):WT X e σ H Q:=by
 refine s.run Γ σ H ρ st Q R G ?_;cases r:m Γ st with
 | ok p q=>rw [r] at h; exact fun H' ρ' B I=>k p q H' ρ' B I (G.ext B) (h H' ρ' B I)
 | exc e st=>rw [r] at h; exact h
 | stuck=>rw [r] at h; exact h
theorem SimT.use' {m:Gam->Q1->Res Bool} (s:SimT X E e m) {P:Bool->Q1->Hp->Tk->Prop} {Q:Bool->Hp->Prop} (R:Rel H ρ st) (G:EnvR H ρ Γ σ) (h:Acc X.mg E H ρ P (m Γ st))
  (k:∀ p q H1 ρ1,m Γ st=.ok p q->Ext H ρ H1 ρ1->Rel H1 ρ1 q->EnvR H1 ρ1 Γ σ->P p q H1 ρ1->Q p H1):WT X e σ H Q:=by
 refine s.run Γ σ H ρ st Q R G ?_;cases r:m Γ st with
 | ok p q=>rw [r] at h; exact fun H' ρ' B I=>k p q H' ρ' r B I (G.ext B) (h H' ρ' B I)
 | exc e st=>rw [r] at h; exact h
 | stuck=>rw [r] at h; exact h
theorem SimW.use {m:Gam->Q1->Res Bool} (s:SimW X E e m) {P:Bool->Q1->Hp->Tk->Prop} {Q:Bool->Hp->Prop} (R:Rel H ρ st) (G:EnvR H ρ Γ σ) (h:Acc X.mg E H ρ P (m Γ st))
  (k:∀ p q H1 ρ1,Ext H ρ H1 ρ1->Rel H1 ρ1 q->EnvR H1 ρ1 Γ σ->P p q H1 ρ1->Q p H1):WW X e σ H Q:=by
 refine s.run Γ σ H ρ st Q R G ?_;cases r:m Γ st with
 | ok p q=>rw [r] at h; exact fun H' ρ' B I=>k p q H' ρ' B I (G.ext B) (h H' ρ' B I)
 | exc e st=>rw [r] at h; exact h
 | stuck=>rw [r] at h; exact h
theorem SimA.use {m:Gam->Q1->Res (List PV)} (s:SimA X E es m) {P:List PV->Q1->Hp->Tk->Prop} {Q:List V->Hp->Prop} (R:Rel H ρ st) (G:EnvR H ρ Γ σ) (h:Acc X.mg E H ρ P (m Γ st))
  (k:∀ ps q H1 ρ1 vs,Ext H ρ H1 ρ1->Rel H1 ρ1 q->EnvR H1 ρ1 Γ σ->RepL H1 ρ1 ps vs->P ps q H1 ρ1->Q vs H1):WA X es σ H Q:=by
 refine s.run Γ σ H ρ st Q R G ?_;cases r:m Γ st with
 | ok p q=>rw [r] at h; exact fun H' ρ' B I v J=>k p q H' ρ' v B I (G.ext B) J (h H' ρ' B I)
 | exc e st=>rw [r] at h; exact h
 | stuck=>rw [r] at h; exact h
theorem OpS.use {o:OP} (s:OpS X E f o) {P:PV->Q1->Hp->Tk->Prop} {Q:VK} {p q:PV} {x y:V} (R:Rel H ρ st) (O:Rep H ρ p x) (J:Rep H ρ q y) (h:Acc X.mg E H ρ P (o st p q))
  (k:∀ p B H1 ρ1 v,Ext H ρ H1 ρ1->Rel H1 ρ1 B->Rep H1 ρ1 p v->P p B H1 ρ1->Q v H1):WO X f x y H Q:=by
 refine s.run H ρ st p q x y Q R O J ?_;cases r:o st p q with
 | ok p B=>rw [r] at h; exact fun H' ρ' G I v U=>k p B H' ρ' v G I U (h H' ρ' G I)
 | exc e st=>rw [r] at h; exact h
 | stuck=>rw [r] at h; exact h
end Sm
namespace Sm
open PySem PySem.Spec L2 SeqAt
variable {n:Nat} {ps:List PV}
mutual
def peq:PV->PV->Bool
 | .non,.non=>true
 | .bl a,.bl b=>a == b
 | .bl a,.int b=>(if a then 1 else 0) == b
 | .int a,.bl b=>a == (if b then 1 else 0)
 | .int a,.int b=>a == b
 | .str a,.str b=>a == b
 | .tup xs,.tup ys=>Kk xs ys
 | .lst xs,.lst ys=>Kk xs ys
 | .lst xs,.fro ys=>Kk xs ys
 | .fro xs,.lst ys=>Kk xs ys
 | .fro xs,.fro ys=>Kk xs ys
 | _,_=>false
def Kk:List PV->List PV->Bool
 | [],[]=>true
 | x :: xs,y :: ys=>peq x y && Kk xs ys
 | _,_=>false
end
def Zq:Nat->PV->Bool
 | _,.ref _=>false
 | _,.dic=>false
 | 0,.tup _=>false
 | 0,.lst _=>false
 | 0,.fro _=>false
 | n + 1,.tup xs=>xs.all (Zq n)
 | n + 1,.lst xs=>xs.all (Zq n)
 | n + 1,.fro xs=>xs.all (Zq n)
 | _,_=>true
theorem Q5c:∀ {xs ys:List PV},xs.length≠ys.length->Kk xs ys=false
 | [],[],h=>absurd rfl h
 | [],_ :: _,_=>by simp [Kk]
 | _ :: _,[],_=>by simp [Kk]
 | x :: xs,y :: ys,h=>by
  rw [Kk,Q5c (xs:=xs) (ys:=ys) fun e=>h (by simp [e]),Bool.and_false]
theorem Q5d:∀ {xs ys:List PV},xs.length=ys.length->Kk xs ys=(List.range xs.length).all fun j=>peq (xs.getD j .non) (ys.getD j .non)
 | [],[],_=>by simp [Kk]
 | [],_ :: _,h=>by simp at h
 | _ :: _,[],h=>by simp at h
 | x :: xs,y :: ys,h=>by
  rw [Kk,Q5d (xs:=xs) (ys:=ys) (by simpa using h),D7,List.range_succ_eq_map,List.all_cons,List.all_map];rfl
variable {X:Cx} {pins:List (aA × Obj)} {σ:St} {H:Hp} {s:aC} {ρ:Tk}
mutual
theorem Qab:∀ {p q:PV} {x:V} {n:Nat},Zq n p=true->Zq n q=true->Rep H ρ p x->Rep H ρ q x->peq p q=true
 | .non,q,x,n,_,I,h1,h2=>by
  cases h1;cases q <;> first | rfl | (cases n <;> cases I; done) | (cases h2; done) | (obtain ⟨_,_,e,_⟩:=h2; cases e) | (obtain ⟨_,_,e⟩:=h2; cases e)
 | .bl b,q,x,n,_,I,h1,h2=>by
  cases h1;cases q <;> first | (cases n <;> cases I; done) | (cases h2; simp [peq]; done) | (obtain ⟨_,_,e,_⟩:=h2; done) | (obtain ⟨_,_,e,_⟩:=h2; cases e; done) | (obtain ⟨_,_,e⟩:=h2; cases e)
 | .int b,q,x,n,_,I,h1,h2=>by
  cases h1;cases q <;> first | (cases n <;> cases I; done) | (cases h2; simp [peq]; done) | (obtain ⟨_,_,e,_⟩:=h2; done) | (obtain ⟨_,_,e,_⟩:=h2; cases e; done) | (obtain ⟨_,_,e⟩:=h2; cases e)
 | .str b,q,x,n,_,I,h1,h2=>by
  cases h1;cases q <;> first | (cases n <;> cases I; done) | (cases h2; simp [peq]; done) | (obtain ⟨_,_,e,_⟩:=h2; done) | (obtain ⟨_,_,e,_⟩:=h2; cases e; done) | (obtain ⟨_,_,e⟩:=h2; cases e)
 | .tup ps,q,x,0,J,_,_,_=>by cases J
 | .tup ps,q,x,n + 1,J,I,⟨a,vs,e,G,_,r⟩,h2=>by
  subst e;cases q with
  | tup U=>
   obtain ⟨b,us,e,B,_,O⟩:=h2;cases e;rw [G] at B; cases B;rw [peq];exact Xd J I r O
  | lst U=>obtain ⟨b,us,e,B,_⟩:=h2; cases e; rw [G] at B; cases B
  | fro U=>obtain ⟨b,us,e,B,_⟩:=h2; cases e; rcases B with B | ⟨o,B⟩ <;> (rw [G] at B; cases B)
  | ref i=>cases I
  | dic=>cases I
  | _=>cases h2
 | .lst ps,q,x,0,J,_,_,_=>by cases J
 | .lst ps,q,x,n + 1,J,I,⟨a,vs,e,G,_,r⟩,h2=>by
  subst e;cases q with
  | lst U=>
   obtain ⟨b,us,e,B,_,O⟩:=h2;cases e;rw [G] at B; cases B;rw [peq];exact Xd J I r O
  | tup U=>obtain ⟨b,us,e,B,_⟩:=h2; cases e; rw [G] at B; cases B
  | fro U=>
   obtain ⟨b,us,e,B,_,O⟩:=h2;cases e;rcases B with B | ⟨o,B⟩
   ·rw [G] at B; cases B;rw [peq];exact Xd J I r O
   ·rw [G] at B; cases B
  | ref i=>cases I
  | dic=>cases I
  | _=>cases h2
 | .fro ps,q,x,0,J,_,_,_=>by cases J
 | .fro ps,q,x,n + 1,J,I,⟨a,vs,e,G,_,r⟩,h2=>by
  subst e;cases q with
  | lst U=>
   obtain ⟨b,us,e,B,_,O⟩:=h2;cases e;rcases G with G | ⟨o,G⟩
   ·rw [G] at B; cases B;rw [peq];exact Xd J I r O
   ·rw [G] at B; cases B
  | tup U=>obtain ⟨b,us,e,B,_⟩:=h2; cases e; rcases G with G | ⟨o,G⟩ <;> (rw [G] at B; cases B)
  | fro U=>
   obtain ⟨b,us,e,B,_,O⟩:=h2;cases e;have:vs=us:=by
    rcases G with G | ⟨o,G⟩ <;> rcases B with B | ⟨o',B⟩ <;> (rw [G] at B; cases B) <;> rfl
   subst this;rw [peq];exact Xd J I r O
  | ref i=>cases I
  | dic=>cases I
  | _=>cases h2
 | .ref i,_,_,n,J,_,_,_=>by cases n <;> cases J
 | .dic,_,_,n,J,_,_,_=>by cases n <;> cases J
theorem Xd:∀ {ps B:List PV} {vs:List V} {n:Nat},ps.all (Zq n)=true->B.all (Zq n)=true->RepL H ρ ps vs->RepL H ρ B vs->Kk ps B=true
 | [],B,vs,n,_,_,h1,h2=>by
  cases h1;cases B with
  | nil=>rfl
  | cons q B=>obtain ⟨_,_,e,_⟩:=h2; cases e
 | p :: ps,B,vs,n,G,g2,⟨v,r,e,h1,J⟩,h2=>by
  subst e;cases B with
  | nil=>cases h2
  | cons q B=>
   obtain ⟨_,_,e,h2,I⟩:=h2;cases e;rw [List.all_cons,F5] at G g2;rw [Kk,Qab G.1 g2.1 h1 h2,Xd G.2 g2.2 J I]; rfl
end
inductive Kd (H:Hp) (ρ:Tk) (s:aC):PV->aB->Prop where
 | non:Kd H ρ s .non .none
 | bl (b):Kd H ρ s (.bl b) (.bool b)
 | int (i t):Kd H ρ s (.int i) (.int i t)
 | str (x t):Kd H ρ s (.str x) (.str x t)
 | tup (ps a) (vs:List V) (its:List aB):H a=some (.tup vs)->RepL H ρ ps vs->Vals vs its->s.heap.IsTuple a its.toArray->Kd H ρ s (.tup ps) (.ref a)
 | lst (p ps a) (vs:List V) (its:List aB):(p=.lst ps\/p=.fro ps)->RepL H ρ ps vs->Vals vs its->s.heap.IsList a its.toArray->Kd H ρ s p (.ref a)
theorem Qe9 {p:PV} {x:V} {u:aB} (I:Inv X pins σ H s) (g:Zq n p=true) (r:Rep H ρ p x) (q:RelV x u):Kd H ρ s p u:=by
 cases p with
 | non=>cases r; cases q; exact .non
 | bl b=>cases r; cases q; exact .bl b
 | int i=>cases r; obtain ⟨t,rfl⟩:=q; exact .int i t
 | str i=>cases r; obtain ⟨t,rfl⟩:=q; exact .str i t
 | tup ps=>
  obtain ⟨a,vs,rfl,B,_,J⟩:=r;cases q;obtain ⟨its,G,O,_⟩:=I.tuple (SqT.of (K:=X.K) B);exact .tup ps a vs its B J G O
 | lst ps=>
  obtain ⟨a,vs,rfl,B,_,J⟩:=r;cases q;obtain ⟨its,G,O,_⟩:=I.list (SqL.of (K:=X.K) B);exact .lst _ ps a vs its (.inl rfl) J G O.isList
 | fro ps=>
  obtain ⟨a,vs,rfl,B,_,J⟩:=r;cases q;obtain ⟨its,G,O,_⟩:=I.list (show SqL X.K H a vs from .inl B);exact .lst _ ps a vs its (.inr rfl) J G O.isList
 | ref i=>cases n <;> cases g
 | dic=>cases n <;> cases g
theorem Q4j {vs:List V} {its:List aB} (r:RepL H ρ ps vs) (v:Vals vs its) {j:Nat} (h:j < its.length):∃ x,Rep H ρ (ps.getD j .non) x/\RelV x its[j]:=by
 have l1:=r.length;have l2:=v.length;have q:j < ps.length:=by omega
 obtain ⟨x,e1,e2⟩:=r.get (O5 q);obtain ⟨u,e3,B⟩:=v.get e1;rw [O5 h] at e3; cases e3;refine ⟨x,?_,B⟩;rw [List.getD,O5 q];exact e2
theorem Q0x (g:ps.all (Zq n)=true) (j:Nat) (q:j < ps.length):Zq n (ps.getD j .non)=true:=by
 rw [List.getD,O5 q];exact (G7.mp g) _ (List.getElem_mem q)
theorem Qce {q:List PV}:((List.range (min ps.length q.length)).all (fun j=>peq (ps.getD j .non) (q.getD j .non)) && ps.length == q.length)=Kk ps q:=by
 by_cases e:ps.length=q.length
 ·rw [Q5d e,<- e,Nat.min_self,beq_self_eq_true,Bool.and_true]
 ·rw [Q5c e,beq_eq_false_iff_ne.mpr e,Bool.and_false]
theorem Qeg:∀ (n:Nat) {A:aQ} {p q:PV} {x y:V} {u v:aB},Inv X pins σ H s->Zq n p=true->Zq n q=true->A.units + n < aa->Rep H ρ p x->RelV x u->Rep H ρ q y->RelV y v ->
  EqAt A s u v (peq p q)/\RcAt A s u v (peq p q)/\RcNeAt A s u v (!peq p q):=by
 intro n
 induction n with
 | zero=>
  intro A p q x y u v I Z O hu rp ru rq rv;have k1:=Qe9 I Z rp ru;have k2:=Qe9 I O rq rv;have hu:A.units < aa:=by omega
  cases k1 with
  | tup=>cases Z
  | lst p ps a vs its h=>rcases h with rfl | rfl <;> cases Z
  | non=>cases k2 with
   | tup=>cases O
   | lst p ps a vs its h=>rcases h with rfl | rfl <;> cases O
   | non=>exact ⟨EqAt.same _,RcAt.none_none,RcNeAt.none_none⟩
   | bl b=>exact ⟨EqAt.none_bool _,RcAt.none_bool _,RcNeAt.none_bool _⟩
   | int i t=>exact ⟨EqAt.none_int _ _,RcAt.none_int _ _,RcNeAt.none_int _ _⟩
   | str i t=>exact ⟨EqAt.none_str _ _,RcAt.none_str _ _,RcNeAt.none_str _ _⟩
  | bl a=>cases k2 with
   | tup=>cases O
   | lst p ps a vs its h=>rcases h with rfl | rfl <;> cases O
   | non=>exact ⟨EqAt.bool_none _,RcAt.bool_none _,RcNeAt.bool_none _⟩
   | bl b=>exact ⟨EqAt.bool_bool _ _,RcAt.bool_bool _ _,RcNeAt.bool_bool _ _⟩
   | int i t=>exact ⟨EqAt.bool_int _ _ _,RcAt.bool_int _ _ _,RcNeAt.bool_int _ _ _⟩
   | str i t=>exact ⟨EqAt.bool_str _ _ _,RcAt.bool_str _ _ _,RcNeAt.bool_str _ _ _⟩
  | int a a4=>cases k2 with
   | tup=>cases O
   | lst p ps a vs its h=>rcases h with rfl | rfl <;> cases O
   | non=>exact ⟨EqAt.int_none _ _,RcAt.int_none _ _,RcNeAt.int_none _ _⟩
   | bl b=>exact ⟨EqAt.int_bool _ _ _,RcAt.int_bool _ _ _,RcNeAt.int_bool _ _ _⟩
   | int i t=>exact ⟨EqAt.int_int _ _ _ _,RcAt.int_int _ _ _ _,RcNeAt.int_int _ _ _ _⟩
   | str i t=>exact ⟨EqAt.int_str _ _ _ _,RcAt.int_str _ _ _ _,RcNeAt.int_str _ _ _ _⟩
  | str a a4=>cases k2 with
   | tup=>cases O
   | lst p ps a vs its h=>rcases h with rfl | rfl <;> cases O
   | non=>exact ⟨EqAt.str_none _ _,RcAt.str_none _ _,RcNeAt.str_none _ _⟩
   | bl b=>exact ⟨EqAt.str_bool _ _ _,RcAt.str_bool _ _ _,RcNeAt.str_bool _ _ _⟩
   | int i t=>exact ⟨EqAt.str_int _ _ _ _,RcAt.str_int _ _ _ _,RcNeAt.str_int _ _ _ _⟩
   | str i t=>exact ⟨EqAt.str_str _ _ _ _,RcAt.str_str _ _ _ _,RcNeAt.str_str _ _ _ _⟩
 | succ n ih=>
  intro A p q x y u v I Z O hu rp ru rq rv;have k1:=Qe9 I Z rp ru;have k2:=Qe9 I O rq rv;have B:A.units < aa:=by omega
  have a5:A.in1.units + n < aa:=by show A.units + 1 + n < aa; omega
  cases k1 with
  | non=>cases k2 with
   | non=>exact ⟨EqAt.same _,RcAt.none_none,RcNeAt.none_none⟩
   | bl b=>exact ⟨EqAt.none_bool _,RcAt.none_bool _,RcNeAt.none_bool _⟩
   | int i t=>exact ⟨EqAt.none_int _ _,RcAt.none_int _ _,RcNeAt.none_int _ _⟩
   | str i t=>exact ⟨EqAt.none_str _ _,RcAt.none_str _ _,RcNeAt.none_str _ _⟩
   | tup ps a vs its ha r Y G=>exact ⟨EqAt.none_tuple G B,RcAt.none_tuple G B,RcNeAt.none_tuple G B⟩
   | lst p ps a vs its h r Y G=>rcases h with rfl | rfl <;> exact ⟨EqAt.none_list G B,RcAt.none_list G B,RcNeAt.none_list G B⟩
  | bl a=>cases k2 with
   | non=>exact ⟨EqAt.bool_none _,RcAt.bool_none _,RcNeAt.bool_none _⟩
   | bl b=>exact ⟨EqAt.bool_bool _ _,RcAt.bool_bool _ _,RcNeAt.bool_bool _ _⟩
   | int i t=>exact ⟨EqAt.bool_int _ _ _,RcAt.bool_int _ _ _,RcNeAt.bool_int _ _ _⟩
   | str i t=>exact ⟨EqAt.bool_str _ _ _,RcAt.bool_str _ _ _,RcNeAt.bool_str _ _ _⟩
   | tup ps a vs its ha r Y G=>exact ⟨EqAt.bool_tuple _ G B,RcAt.bool_tuple _ G B,RcNeAt.bool_tuple _ G B⟩
   | lst p ps a vs its h r Y G=>rcases h with rfl | rfl <;> exact ⟨EqAt.bool_list _ G B,RcAt.bool_list _ G B,RcNeAt.bool_list _ G B⟩
  | int a a4=>cases k2 with
   | non=>exact ⟨EqAt.int_none _ _,RcAt.int_none _ _,RcNeAt.int_none _ _⟩
   | bl b=>exact ⟨EqAt.int_bool _ _ _,RcAt.int_bool _ _ _,RcNeAt.int_bool _ _ _⟩
   | int i t=>exact ⟨EqAt.int_int _ _ _ _,RcAt.int_int _ _ _ _,RcNeAt.int_int _ _ _ _⟩
   | str i t=>exact ⟨EqAt.int_str _ _ _ _,RcAt.int_str _ _ _ _,RcNeAt.int_str _ _ _ _⟩
   | tup ps a vs its ha r Y G=>exact ⟨EqAt.int_tuple _ _ G B,RcAt.int_tuple _ _ G B,RcNeAt.int_tuple _ _ G B⟩
   | lst p ps a vs its h r Y G=>rcases h with rfl | rfl <;> exact ⟨EqAt.int_list _ _ G B,RcAt.int_list _ _ G B,RcNeAt.int_list _ _ G B⟩
  | str a a4=>cases k2 with
   | non=>exact ⟨EqAt.str_none _ _,RcAt.str_none _ _,RcNeAt.str_none _ _⟩
   | bl b=>exact ⟨EqAt.str_bool _ _ _,RcAt.str_bool _ _ _,RcNeAt.str_bool _ _ _⟩
   | int i t=>exact ⟨EqAt.str_int _ _ _ _,RcAt.str_int _ _ _ _,RcNeAt.str_int _ _ _ _⟩
   | str i t=>exact ⟨EqAt.str_str _ _ _ _,RcAt.str_str _ _ _ _,RcNeAt.str_str _ _ _ _⟩
   | tup ps a vs its ha r Y G=>exact ⟨EqAt.str_tuple _ _ G B,RcAt.str_tuple _ _ G B,RcNeAt.str_tuple _ _ G B⟩
   | lst p ps a vs its h r Y G=>rcases h with rfl | rfl <;> exact ⟨EqAt.str_list _ _ G B,RcAt.str_list _ _ G B,RcNeAt.str_list _ _ G B⟩
  | tup ps a vs its ha r Y G=>cases k2 with
   | non=>exact ⟨EqAt.tuple_none G B,RcAt.tuple_none G B,RcNeAt.tuple_none G B⟩
   | bl b=>exact ⟨EqAt.tuple_bool _ G B,RcAt.tuple_bool _ G B,RcNeAt.tuple_bool _ G B⟩
   | int i t=>exact ⟨EqAt.tuple_int _ _ G B,RcAt.tuple_int _ _ G B,RcNeAt.tuple_int _ _ G B⟩
   | str i t=>exact ⟨EqAt.tuple_str _ _ G B,RcAt.tuple_str _ _ G B,RcNeAt.tuple_str _ _ G B⟩
   | tup U b us J hb r2 v2 p2=>
    have l1:its.toArray.size=ps.length:=by rw [O4,<- Y.length,r.length]
    have l2:J.toArray.size=U.length:=by rw [O4,<- v2.length,r2.length]
    have he:∀ j (h1:j < its.toArray.size) (h2:j < J.toArray.size),EqAt A.in1 s its.toArray[j] J.toArray[j] (peq (ps.getD j .non) (U.getD j .non)):=fun j h1 h2=>by
     obtain ⟨x1,a1,b1⟩:=Q4j r Y (j:=j) (by simpa using h1);obtain ⟨x2,a2,b2⟩:=Q4j r2 v2 (j:=j) (by simpa using h2);exact (ih I (Q0x Z j (by omega)) (Q0x O j (by omega)) a5 a1 b1 a2 b2).1
    have rc:=RcAt.tuples G p2 B he;have rn:=RcNeAt.tuples G p2 B he;rw [l1,l2,Qce] at rc rn;refine ⟨?_,rc,rn⟩
    by_cases e:a=b
    ·subst e;have:Kk ps U=true:=by
      rw [ha] at hb; cases hb;exact Xd Z O r r2
     show EqAt A s _ _ (Kk ps U);rw [this];exact EqAt.same _
    ·exact EqAt.of_refs e rc
   | lst q U b us J h r2 v2 p2=>rcases h with rfl | rfl <;> exact ⟨EqAt.tuple_list G p2 B,RcAt.tuple_list G p2 B,RcNeAt.tuple_list G p2 B⟩
  | lst p ps a vs its h r Y G=>cases k2 with
   | non=>rcases h with rfl | rfl <;> exact ⟨EqAt.list_none G B,RcAt.list_none G B,RcNeAt.list_none G B⟩
   | bl b=>rcases h with rfl | rfl <;> exact ⟨EqAt.list_bool _ G B,RcAt.list_bool _ G B,RcNeAt.list_bool _ G B⟩
   | int i t=>rcases h with rfl | rfl <;> exact ⟨EqAt.list_int _ _ G B,RcAt.list_int _ _ G B,RcNeAt.list_int _ _ G B⟩
   | str i t=>rcases h with rfl | rfl <;> exact ⟨EqAt.list_str _ _ G B,RcAt.list_str _ _ G B,RcNeAt.list_str _ _ G B⟩
   | tup U b us J hb r2 v2 p2=>rcases h with rfl | rfl <;> exact ⟨EqAt.list_tuple G p2 B,RcAt.list_tuple G p2 B,RcNeAt.list_tuple G p2 B⟩
   | lst q U b us J h2 r2 v2 p2=>
    have l1:its.toArray.size=ps.length:=by rw [O4,<- Y.length,r.length]
    have l2:J.toArray.size=U.length:=by rw [O4,<- v2.length,r2.length]
    have a8:ps.all (Zq n)=true:=by rcases h with rfl | rfl <;> exact Z
    have a6:U.all (Zq n)=true:=by rcases h2 with rfl | rfl <;> exact O
    have ep:peq p q=Kk ps U:=by rcases h with rfl | rfl <;> rcases h2 with rfl | rfl <;> rfl
    have he:∀ j (h1:j < its.toArray.size) (h2:j < J.toArray.size),EqAt A.in1 s its.toArray[j] J.toArray[j] (peq (ps.getD j .non) (U.getD j .non)):=fun j h1 h2=>by
     obtain ⟨x1,a1,b1⟩:=Q4j r Y (j:=j) (by simpa using h1);obtain ⟨x2,a2,b2⟩:=Q4j r2 v2 (j:=j) (by simpa using h2);exact (ih I (Q0x a8 j (by omega)) (Q0x a6 j (by omega)) a5 a1 b1 a2 b2).1
    rw [ep];have a3:RcAt A s (.ref a) (.ref b) (Kk ps U)/\RcNeAt A s (.ref a) (.ref b) (!Kk ps U):=by
     by_cases e:ps.length=U.length
     ·have rc:=RcAt.lists G p2 (by rw [l1,l2,e]) B he;have rn:=RcNeAt.lists G p2 (by rw [l1,l2,e]) B he;rw [l1,<- Q5d e] at rc rn;exact ⟨rc,rn⟩
     ·have e':(its.toArray.size != J.toArray.size)=true:=by rw [l1,l2]; simpa using e
      rw [Q5c e];exact ⟨RcAt.lists_lengths G p2 e' B,RcNeAt.lists_lengths G p2 e' B⟩
    refine ⟨?_,a3.1,a3.2⟩
    by_cases e:a=b
    ·subst e;have a7:peq p q=true:=by
      have b0:=rp;have a9:=rq;have xa:x=.ref a:=by
       rcases h with rfl | rfl <;> (obtain ⟨b',_,rfl,_⟩:=rp; cases ru; rfl)
      have ya:y=.ref a:=by
       rcases h2 with rfl | rfl <;> (obtain ⟨b',_,rfl,_⟩:=rq; cases rv; rfl)
      subst xa; subst ya;exact Qab Z O rp rq
     rw [<- ep,a7];exact EqAt.same _
    ·exact EqAt.of_refs e a3.1
end Sm
namespace Sm
open PySem PySem.Spec L2
variable {n j:Nat} {K:PySem.W.Frag} {vs:List V} {mg:Str->Option aB} {E:XK} {Q:VK} {ps:List PV} {o:OP} {Γ:Gam} {σ:St} {P:PV->Q1->Hp->Tk->Prop} {op:CmpOp} {e:aD}
def lim:Nat:=1000000
theorem Qcv:lim<=sizeLine:=by decide
theorem Xk (h:n<=lim):n<=sizeLine:=F0 h Qcv
def Q0h (st:Q1):PV->Option (List PV)
 | .lst xs=>some xs
 | .ref i=>match st[i]? with
  | some (.lst xs)=>some xs
  | _=>none
 | _=>none
def xi (st:Q1):PV->Option (List PV)
 | .fro xs=>some xs
 | p=>Q0h st p
def Xb (st:Q1):PV->Option (List PV)
 | .tup xs=>some xs
 | p=>xi st p
def der (st:Q1):PV->PV
 | .ref i=>match st[i]? with
  | some (.lst xs)=>.lst xs
  | _=>.ref i
 | p=>p
variable {H:Hp} {ρ:Tk} {st:Q1} {p:PV} {v:V} {xs:List PV}
theorem Q64 (R:Rel H ρ st) (r:Rep H ρ p v) (e:Q0h st p=some xs):∃ a vs,v=.ref a/\H a=some (.lst vs)/\RepL H ρ xs vs:=by
 cases p with
 | lst ys=>
  obtain ⟨a,vs,e1,e2,_,e3⟩:=r;cases e;exact ⟨a,vs,e1,e2,e3⟩
 | ref i=>
  obtain ⟨a,e1,e2⟩:=r;simp only [Q0h] at e
  split at e
  ·rename_i ys hs;cases e;obtain ⟨b,vs,q,G,B⟩:=R.lst hs;rw [e1] at q; cases q;exact ⟨a,vs,e2,G,B⟩
  ·cases e
 | _=>cases e
theorem Q4g (R:Rel H ρ st) (r:Rep H ρ p v) (e:xi st p=some xs):∃ a vs,v=.ref a/\Rd H a (.lst vs)/\RepL H ρ xs vs:=by
 cases p with
 | fro ys=>
  obtain ⟨a,vs,e1,e2,_,e3⟩:=r;cases e;exact ⟨a,vs,e1,e2,e3⟩
 | _=>
  obtain ⟨a,vs,e1,e2,e3⟩:=Q64 R r e;exact ⟨a,vs,e1,.inl e2,e3⟩
theorem Q51 (R:Rel H ρ st) (r:Rep H ρ p v) (e:Xb st p=some xs):∃ (t:Bool) (a:aA) (vs:List V),v=.ref a/\SqK K t H a vs/\RepL H ρ xs vs:=by
 cases p with
 | tup ys=>
  obtain ⟨a,vs,e1,e2,_,e3⟩:=r;cases e;exact ⟨true,a,vs,e1,show SqT K H a vs from SqT.of e2,e3⟩
 | _=>
  obtain ⟨a,vs,e1,e2,e3⟩:=Q4g R r e;exact ⟨false,a,vs,e1,show SqL K H a vs from .inl e2,e3⟩
theorem Qrx {t:Bool} {a:aA} (h:SqK K t H a vs):SqL K H a vs\/SqT K H a vs:=by
 cases t with
 | true=>exact .inr h
 | false=>exact .inl h
mutual
theorem Qdj:∀ {n:Nat} {q:PV} {u:V},Zq n q=true->Rep H ρ q u->Rep H Tk.nil q u
 | _,.non,_,_,r=>r
 | _,.bl _,_,_,r=>r
 | _,.int _,_,_,r=>r
 | _,.str _,_,_,r=>r
 | 0,.tup _,_,g,_=>by cases g
 | 0,.lst _,_,g,_=>by cases g
 | 0,.fro _,_,g,_=>by cases g
 | n + 1,.tup _,_,g,⟨a,vs,e,h,_,r⟩=>⟨a,vs,e,h,Tk.not_nil _,qm g r⟩
 | n + 1,.lst _,_,g,⟨a,vs,e,h,_,r⟩=>⟨a,vs,e,h,Tk.not_nil _,qm g r⟩
 | n + 1,.fro _,_,g,⟨a,vs,e,h,_,r⟩=>⟨a,vs,e,h,Tk.not_nil _,qm g r⟩
 | 0,.ref _,_,g,_=>by cases g
 | _ + 1,.ref _,_,g,_=>by cases g
 | 0,.dic,_,g,_=>by cases g
 | _ + 1,.dic,_,g,_=>by cases g
theorem qm:∀ {n:Nat} {B:List PV} {us:List V},B.all (Zq n)=true->RepL H ρ B us->RepL H Tk.nil B us
 | _,[],_,_,r=>r
 | n,q :: B,_,g,⟨v,r,e,h1,h2⟩=>by
  rw [List.all_cons,F5] at g;exact ⟨v,r,e,Qdj g.1 h1,qm g.2 h2⟩
end
theorem Q0y (R:Rel H ρ st) (g:Zq n (der st p)=true) (r:Rep H ρ p v):Rep H Tk.nil (der st p) v:=by
 cases p with
 | ref i=>
  obtain ⟨a,e1,e2⟩:=r;simp only [der] at g ⊢
  split at g
  ·rename_i ys hs;obtain ⟨b,vs,q,G,B⟩:=R.lst hs;rw [e1] at q; cases q;cases n with
   | zero=>cases g
   | succ n=>exact ⟨a,vs,e2,G,Tk.not_nil _,qm g B⟩
  ·cases n <;> cases g
 | _=>exact Qdj g r
theorem Q29 (R:Rel H ρ st) (h:Acc mg E H ρ (QV Q) (.ok (.tup ps) st)) (r:RepL H ρ ps vs):∀ p,H p=none->Q (.ref p) (upd H p (.tup vs)):=
 fun p hp=>h _ ρ (Ext.add hp) (R.add hp) _ ⟨p,vs,rfl,Qj,R.fresh hp,r.ext (Ext.add hp)⟩
theorem Q4f (R:Rel H ρ st) (h:Acc mg E H ρ (QV Q) (.ok (.lst ps) st)) (r:RepL H ρ ps vs):∀ p,H p=none->Q (.ref p) (upd H p (.lst vs)):=
 fun p hp=>h _ ρ (Ext.add hp) (R.add hp) _ ⟨p,vs,rfl,Qj,R.fresh hp,r.ext (Ext.add hp)⟩
theorem now (R:Rel H ρ st) (h:Acc mg E H ρ (QV Q) (.ok p st)) (r:Rep H ρ p v):Q v H:=h H ρ (Ext.refl _ _) R v r
section
variable {X:Cx} {E:XK} {pos:Pos}
def Q3 (i:Nat):ME:=fun Γ st=>match Γ[i]? with
 | some (some p)=>.ok p st
 | _=>.stuck
def mC (p:PV):ME:=fun _ st=>.ok p st
theorem Q1b (i:Nat) {x:Str} (I:X.N[i]?=some x:=by rfl) (B:Vis X.env.scope x:=by first | exact Or.inl rfl | exact Or.inr (Or.inl rfl) | exact Or.inr (Or.inr rfl)) (hd:(x == ("__debug__" : Str))=false:=by decide)
  (q:(x == ("__classdict__" : Str))=false:=by decide):SimE X E (.Name x pos) (Q3 i):=⟨fun Γ σ H ρ st Q R G h=>WE.of (Qih I B hd q) (by
 unfold Q3 at h
 split at h
 ·rename_i p e;obtain ⟨v,e1,r⟩:=G.2 i p e;exact ⟨v,e1,now R h r⟩
 ·exact h.elim)⟩
theorem Qhq {i:Int} :SimE X E (.Constant (.int i) j pos) (mC (.int i)):=⟨fun Γ σ H ρ st Q R G h=>WE.of Qik (now R h rfl)⟩
theorem Qqi {b:Bool} :SimE X E (.Constant (.bool b) j pos) (mC (.bl b)):=⟨fun Γ σ H ρ st Q R G h=>WE.of Qiq (now R h rfl)⟩
theorem Qs7 :SimE X E (.Constant .none j pos) (mC .non):=⟨fun Γ σ H ρ st Q R G h=>WE.of Qcf (now R h rfl)⟩
theorem Qc7 {x:Str} :SimE X E (.Constant (.str x) j pos) (mC (.str x)):=⟨fun Γ σ H ρ st Q R G h=>WE.of qp (now R h rfl)⟩
theorem Qmv {x:Str} {i:Int} {t:Tok} (q:Gl X x) (B:X.mg x=some (.int i t)) (hd:(x == ("__debug__" : Str))=false:=by decide):SimE X E (.Name x pos) (mC (.int i)):=
 ⟨fun Γ σ H ρ st Q R G h=>WE.of (We q B (v:=.int i) ⟨t,rfl⟩ hd) (now R h rfl)⟩
variable {a b c:aD} {ma mb mc:ME}
def mOp (o:OP) (ma mb:ME):ME:=fun Γ st=>(ma Γ st).bind fun x st1=>(mb Γ st1).bind fun y st2=>o st2 x y
theorem Q9t {f:aB->aB->Sem aB} {Q:VK} (Y:OpS X E f o) (ha:SimE X E a ma) (hb:SimE X E b mb) (R:Rel H ρ st) (G:EnvR H ρ Γ σ) (h:Acc X.mg E H ρ P (mOp o ma mb Γ st))
  (k:∀ p B H1 ρ1 v,Ext H ρ H1 ρ1->Rel H1 ρ1 B->Rep H1 ρ1 p v->P p B H1 ρ1->Q v H1):tOp (WO X f) (WE X a) (WE X b) σ H Q:=by
 refine ha.use R G h.bind fun p B H1 ρ1 v x1 R1 G1 r1 h1=>?_
 refine hb.use R1 G1 h1.bind fun q a3 H2 a2 u O R2 G2 r2 h2=>?_
 exact Y.use R2 (r1.ext O) r2 h2 fun w I U J z x3 Z r3 p3=>k w I U J z (x1.trans (O.trans x3)) Z r3 p3
theorem Qvq {op:Operator} (B:OpS X E (aW op) o) (I:SimE X E a ma) (J:SimE X E b mb):SimE X E (.BinOp a op b pos) (mOp o ma mb):=
 ⟨fun Γ σ H ρ st Q R G h=>WE.of (Qqq Qch Yi Yi) (Q9t B I J R G h fun _ _ _ _ v _ _ r q=>q v r)⟩
theorem Qsc (B:OpS X E (aV op) o) (J:SimE X E a ma) (O:SimE X E b mb) (I:bF op b=false:=by first | exact Q5p _ | rfl):SimE X E (.Compare a [op] [b] pos) (mOp o ma mb):=
 ⟨fun Γ σ H ρ st Q R G h=>WE.of (Qnn Qch Yi Yi I) (Q9t B J O R G h fun _ _ _ _ v _ _ r q=>q v r)⟩
def asB (p:PV) (st:Q1):Res Bool:=match p with
 | .bl k=>.ok k st
 | _=>.stuck
def toB (m:ME):Gam->Q1->Res Bool:=fun Γ st=>(m Γ st).bind asB
theorem Qkt {P:Bool->Q1->Hp->Tk->Prop} (R:Rel H ρ st) (r:Rep H ρ p v) (h:Acc mg E H ρ P (asB p st)):∃ k,v=.bl k/\P k st H ρ:=by
 cases p with
 | bl k=>exact ⟨k,r,h H ρ (Ext.refl _ _) R⟩
 | _=>exact h.elim
theorem Qrr (I:OpS X E (aV op) o) (U:SimE X E a ma) (Y:SimE X E b mb) (J:bF op b=false:=by first | exact Q5p _ | rfl):SimT X E (.Compare a [op] [b] pos) (toB (mOp o ma mb)):=
 ⟨fun Γ σ H ρ st Q R G h=>WT.of (Q93 Qch Yi Yi J) (Q9t I U Y R G h.bind fun _ B _ _ v _ O r q=>by
  obtain ⟨k,e,z⟩:=Qkt O r q;exact ⟨k,e,z⟩)⟩
theorem Qc3 {m:ME} (h:SimE X E e m) (I:∀ q,isTrue e X.env q=(do let v <- q; standAt e.pos; aj [v] (truthy v)):=by intro _; rfl):SimT X E e (toB m):=
 ⟨fun Γ σ H ρ st Q R G O=>WT.of (Qcb Yi I) (h.use R G O.bind fun p B H1 ρ1 v Y J Z U h1=>by
  obtain ⟨k,e,z⟩:=Qkt J U h1;exact ⟨k,e,z⟩)⟩
def xh (o o':OP) (ma mb mc:ME):ME:=fun Γ st=>(ma Γ st).bind fun x st1=>(mb Γ st1).bind fun y st2=>(o st2 x y).bind fun k st3=>match k with
 | .bl true=>(mc Γ st3).bind fun z st4=>o' st4 y z
 | .bl false=>.ok (.bl false) st3
 | _=>.stuck
theorem Q8g {I:CmpOp} {o':OP} {Q:VK} (ho:OpS X E (aV op) o) (Z:OpS X E (aV I) o') (ha:SimE X E a ma) (hb:SimE X E b mb) (hc:SimE X E c mc) (R:Rel H ρ st) (G:EnvR H ρ Γ σ) (h:Acc X.mg E H ρ P (xh o o' ma mb mc Γ st))
  (k:∀ p B H1 ρ1 v,Ext H ρ H1 ρ1->Rel H1 ρ1 B->Rep H1 ρ1 p v->P p B H1 ρ1->Q v H1):Qbz (WO X (aV op)) (WO X (aV I)) (WE X a) (WE X b) (WE X c) σ H Q:=by
 refine ha.use R G h.bind fun p B H1 ρ1 v x1 R1 G1 r1 h1=>?_
 refine hb.use R1 G1 h1.bind fun q a7 H2 a6 u x2 R2 G2 r2 h2=>?_
 refine ho.use R2 (r1.ext x2) r2 h2.bind fun w a3 H3 J z O Y r3 h3=>?_
 cases w with
 | bl b=>
  refine ⟨b,r3,?_⟩;cases b with
  | true=>
   rw [bN rfl];refine hc.use Y (G2.ext O) h3.bind fun y a5 H4 a4 yv x4 R4 G4 r4 h4=>?_
   exact Z.use R4 (r2.ext (O.trans x4)) r4 h4 fun w U H5 a2 z x5 R5 r5 p5=>k w U H5 a2 z (x1.trans (x2.trans (O.trans (x4.trans x5)))) R5 r5 p5
  | false=>
   rw [bO D2];exact k (.bl false) _ H3 J _ (x1.trans (x2.trans O)) Y rfl (h3 H3 J (Ext.refl _ _) Y)
 | _=>exact h3.elim
theorem Qht {B:CmpOp} {o':OP} (J:OpS X E (aV op) o) (I:OpS X E (aV B) o') (Y:SimE X E a ma) (Z:SimE X E b mb) (O:SimE X E c mc) (U:lastMarks [op,B] [b,c]=false:=by with_unfolding_all rfl):SimE X E (.Compare a [op,B] [b,c] pos) (xh o o' ma mb mc):=
 ⟨fun Γ σ H ρ st Q R G h=>WE.of (Qin Qch Qch Yi Yi Yi U) (Q8g J I Y Z O R G h fun _ _ _ _ v _ _ r q=>q v r)⟩
theorem Qhf {B:CmpOp} {o':OP} (O:OpS X E (aV op) o) (I:OpS X E (aV B) o') (ha:SimE X E a ma) (hb:SimE X E b mb) (U:SimE X E c mc) (Y:lastMarks [op,B] [b,c]=false:=by with_unfolding_all rfl):SimT X E (.Compare a [op,B] [b,c] pos) (toB (xh o o' ma mb mc)):=
 ⟨fun Γ σ H ρ st Q R G h=>WT.of (Qi7 Qch Qch Yi Yi Yi Y) (Q8g O I ha hb U R G h.bind fun _ J _ _ v _ Z r q=>by
  obtain ⟨k,e,z⟩:=Qkt Z r q;exact ⟨k,e,z⟩)⟩
variable {rest:List aD}
def Q43 (ma mb:ME):ME:=fun Γ st=>(ma Γ st).bind fun x st1=>match x with
 | .bl true=>mb Γ st1
 | .bl false=>.ok (.bl false) st1
 | _=>.stuck
def mOr (ma mb:ME):ME:=fun Γ st=>(ma Γ st).bind fun x st1=>match x with
 | .bl true=>.ok (.bl true) st1
 | .bl false=>mb Γ st1
 | _=>.stuck
def Qtk (ma:ME):ME:=fun Γ st=>(ma Γ st).bind fun x st1=>match x with
 | .bl k=>.ok (.bl (!k)) st1
 | _=>.stuck
theorem Qs5 {op:BoolOp} (B:SimE X E a ma):SimE X E (.BoolOp op [a] pos) ma:=⟨fun Γ σ H ρ st Q R G h=>WE.of (Qst Yi) (B.use R G h fun _ _ _ _ v _ _ _ r q=>q v r)⟩
theorem Qsd (J:SimE X E a ma) (Y:SimE X E (.BoolOp .And (b :: rest) pos) mb):SimE X E (.BoolOp .And (a :: b :: rest) pos) (Q43 ma mb):=
 ⟨fun Γ σ H ρ st Q R G h=>WE.of (Qsw Yi Yi) (J.use R G h.bind fun p I H1 ρ1 v Z B U O h1=>by
  cases p with
  | bl k=>
   refine ⟨k,O,?_⟩;cases k with
   | true=>rw [bN rfl]; exact Y.use B U h1 fun _ _ _ _ v _ _ _ r q=>q v r
   | false=>rw [bO D2]; exact now B h1 rfl
  | _=>exact h1.elim)⟩
theorem Qvp (J:SimE X E a ma) (Y:SimE X E (.BoolOp .Or (b :: rest) pos) mb):SimE X E (.BoolOp .Or (a :: b :: rest) pos) (mOr ma mb):=
 ⟨fun Γ σ H ρ st Q R G h=>WE.of (Qw4 Yi Yi) (J.use R G h.bind fun p I H1 ρ1 v Z B U O h1=>by
  cases p with
  | bl k=>
   refine ⟨k,O,?_⟩;cases k with
   | true=>rw [bN rfl]; exact now B h1 rfl
   | false=>rw [bO D2]; exact Y.use B U h1 fun _ _ _ _ v _ _ _ r q=>q v r
  | _=>exact h1.elim)⟩
theorem Qs6 (I:SimE X E a ma):SimE X E (.UnaryOp .Not a pos) (Qtk ma):=
 ⟨fun Γ σ H ρ st Q R G h=>WE.of (Qsu Yi) (I.use R G h.bind fun p q H1 ρ1 v O B U J h1=>by
  cases p with
  | bl k=>exact ⟨k,J,now B h1 rfl⟩
  | _=>exact h1.elim)⟩
def xg (ma:ME):ME:=fun Γ st=>(ma Γ st).bind fun x st1=>match x with
 | .int k=>.ok (.int (-k)) st1
 | _=>.stuck
theorem Qs8 (I:SimE X E a ma):SimE X E (.UnaryOp .USub a pos) (xg ma):=
 ⟨fun Γ σ H ρ st Q R G h=>WE.of (Qw3 Qr8 Yi) (I.use R G h.bind fun p q H1 ρ1 v O B U J h1=>by
  cases p with
  | int k=>exact ⟨k,J,now B h1 rfl⟩
  | _=>exact h1.elim)⟩
abbrev MT:=Gam->Q1->Res Bool
variable {ta tb:MT}
def xz (ta tb:MT):MT:=fun Γ st=>(ta Γ st).bind fun k st1=>if k=true then tb Γ st1 else .ok false st1
def Q3q (ta tb:MT):MT:=fun Γ st=>(ta Γ st).bind fun k st1=>if k=true then .ok true st1 else tb Γ st1
def Xy (ta:MT):MT:=fun Γ st=>(ta Γ st).bind fun k st1=>.ok (!k) st1
theorem SimW.t (h:SimW X E e ta):SimT X E e ta:=⟨fun Γ σ H ρ st Q R G q pins s I=>h.run Γ σ H ρ st Q R G q _ pins s I⟩
theorem Qma (B:SimT X E a ta):SimW X E (.BoolOp .And [a] pos) ta:=⟨fun Γ σ H ρ st Q R G h=>WW.of (Qn7 Qaf) (B.use R G h fun _ _ _ _ _ _ _ q=>q)⟩
theorem Qrk (B:SimT X E a ta):SimW X E (.BoolOp .Or [a] pos) ta:=⟨fun Γ σ H ρ st Q R G h=>WW.of (Qi3 Qaf) (B.use R G h fun _ _ _ _ _ _ _ q=>q)⟩
theorem Qrm (J:SimT X E a ta) (U:SimW X E (.BoolOp .And (b :: rest) pos) tb):SimW X E (.BoolOp .And (a :: b :: rest) pos) (xz ta tb):=
 ⟨fun Γ σ H ρ st Q R G h=>WW.of (Qsi Qaf Qvz) (J.use R G h.bind fun k I H1 ρ1 Y B O h1=>by
  cases k with
  | true=>rw [bN rfl] at h1 ⊢; exact U.use B O h1 fun _ _ _ _ _ _ _ q=>q
  | false=>rw [bO D2] at h1 ⊢; exact h1 H1 ρ1 (Ext.refl _ _) B)⟩
theorem Qvm (J:SimT X E a ta) (U:SimW X E (.BoolOp .Or (b :: rest) pos) tb):SimW X E (.BoolOp .Or (a :: b :: rest) pos) (Q3q ta tb):=
 ⟨fun Γ σ H ρ st Q R G h=>WW.of (Qi4 Qaf Qvz) (J.use R G h.bind fun k I H1 ρ1 Y B O h1=>by
  cases k with
  | true=>rw [bN rfl] at h1 ⊢; exact h1 H1 ρ1 (Ext.refl _ _) B
  | false=>rw [bO D2] at h1 ⊢; exact U.use B O h1 fun _ _ _ _ _ _ _ q=>q)⟩
theorem Qrq (I:SimT X E a ta):SimT X E (.UnaryOp .Not a pos) (Xy ta):=
 ⟨fun Γ σ H ρ st Q R G h=>WT.of (Qcc Qaf) (I.use R G h.bind fun k q H1 ρ1 J B O h1=>h1 H1 ρ1 (Ext.refl _ _) B)⟩
variable {e:aD} {es:List aD} {m:ME} {mr:Gam->Q1->Res (List PV)}
def Q4:Gam->Q1->Res (List PV):=fun _ st=>.ok [] st
def Q0 (m:ME) (mr:Gam->Q1->Res (List PV)):Gam->Q1->Res (List PV):=fun Γ st=>(m Γ st).bind fun p st1=>(mr Γ st1).bind fun ps st2=>.ok (p :: ps) st2
theorem Q52:SimA X E [] Q4:=⟨fun Γ σ H ρ st Q R G h=>WA.of Yg (h H ρ (Ext.refl _ _) R [] rfl)⟩
theorem j9 (U:SimE X E e m) (Y:SimA X E es mr) (hs:aO (e :: es) X.env=(false,aM e X.env) :: aO es X.env:=by rfl):SimA X E (e :: es) (Q0 m mr):=
 ⟨fun Γ σ H ρ st Q R G h=>WA.of (Qu Yi Q24 hs) (U.use R G h.bind fun p I H1 ρ1 v x1 J G1 Z h1=>Y.use J G1 h1.bind fun ps O H2 q vs x2 R2 G2 B h2=>
  h2 H2 q (Ext.refl _ _) R2 (v :: vs) ⟨v,vs,rfl,Z.ext x2,B⟩)⟩
def Y2 (mr:Gam->Q1->Res (List PV)):ME:=fun Γ st=>(mr Γ st).bind fun ps st1=>if ps.length<=lim then .ok (.tup ps) st1 else .stuck
def Kv (mr:Gam->Q1->Res (List PV)):ME:=fun Γ st=>(mr Γ st).bind fun ps st1=>if ps.length<=lim then .ok (.lst ps) st1 else .stuck
theorem Qs3 {k:Nat} (h:SimA X E es mr):SimE X E (.Tuple es k pos) (Y2 mr):=
 ⟨fun Γ σ H ρ st Q R G J=>WE.of (Qss Q24) (h.use R G J.bind fun ps B H1 ρ1 vs O I U q h1=>by
  by_cases hl:ps.length<=lim
  ·rw [bN hl] at h1;exact ⟨by rw [<- q.length]; exact Xk hl,Q29 I h1 q⟩
  ·rw [bO hl] at h1; exact h1.elim)⟩
theorem Qs9 (h:SimA X E es mr):SimE X E (.List es pos) (Kv mr):=
 ⟨fun Γ σ H ρ st Q R G J=>WE.of (Qcg Q24) (h.use R G J.bind fun ps B H1 ρ1 vs O I U q h1=>by
  by_cases hl:ps.length<=lim
  ·rw [bN hl] at h1;exact ⟨by rw [<- q.length]; exact Xk hl,Q4f I h1 q⟩
  ·rw [bO hl] at h1; exact h1.elim)⟩
end
end Sm
namespace HT
open PySem PySem.Spec PyProof.Rows
variable {prog:aN} {A:aQ} {E:aB->aC->Prop} {s:aC}
section
variable {w:aL}
theorem getItem_tuple_whole {t sl:aA} {q:Array aB} {Y U:aB} {lo hi:Option Int} {Q:aB->aC->Prop} (B:IsTup s.heap t q) (hs:s.heap.IsSliceOf sl Y U .none) (pl:IsPart Y lo) (pu:IsPart U hi)
  (Z:sIx q.size 0 lo=0/\sIx q.size q.size hi=q.size)
  (h:Q (.ref t) s):aI (aJ prog w) A (getItem (.ref t) (.ref sl)) Q E s:=by
 obtain ⟨os,I,O,a2⟩:=id hs;have J:s.TypeIs (.ref sl) "slice" := ⟨os,I,O⟩;unfold getItem
 try with_reducible refine av ?_
 first | refine aF (aR ?_) | skip
 refine aF (wpAny_sequenceKey B.typeIs (by decide) ?_);refine aF (wpAny_callSpecial?_slot (name:=Str.ofString "__getitem__") B.typeIs PyProof.Rows.slot_tuple_getitem
  (bH PyProof.Rows.slot_tuple_getitem B.typeIs entry_tuple_getitem ?_ (args_tuple_getitem _ _)))
 show aI _ _ (Builtin.Tuple.tupleItemsOf (.ref t) >>= _) _ _ s;refine aF (tupleItemsOf_ B ?_);refine aF (bJ J ?_);rw [bN (by decide)];refine aF (ze hs pl pu ?_);have G:(((sIx q.size 0 lo:Nat):Int) == 0 && (1:Int) == 1 && (sIx q.size q.size hi - sIx q.size 0 lo) == q.size)=true:=by
  rw [Z.1,Z.2]; simp
 show aI _ _ (if (((sIx q.size 0 lo:Nat):Int) == 0 && (1:Int) == 1 && (sIx q.size q.size hi - sIx q.size 0 lo) == q.size)=true then _ else _) _ _ s;rw [bN G];refine aF (aF (bJ B.typeIs (aR ?_)));rw [bN (by rfl)];exact aF (bK (aR ⟨_,rfl,aR h⟩))
end
end HT
namespace L2
open PySem PySem.Spec PyProof.Rows
def Qyz (K:PySem.W.Frag):V->Option Int->Option Int->Hp->VK->Prop:=fun x lo hi H Q=>∃ a xs,x=.ref a/\SqT K H a xs /\
 (HT.sIx xs.length 0 lo=0/\HT.sIx xs.length xs.length hi=xs.length)/\Q (.ref a) H
theorem sl_whole {X:Cx}:SlR X (Qyz X.K):=by
 intro pins s σ H x v vl Z lo hi sl Q I O hs pl J h;obtain ⟨a,xs,rfl,U,Y,q⟩:=h;cases O;obtain ⟨its,r,G,hz⟩:=I.tuple U;have B:its.toArray.size=xs.length:=by rw [O4]; exact r.length.symm
 refine ⟨"tuple",_,PyProof.Rows.slot_tuple_getitem.lookup,G.typeIs,?_⟩;exact HT.getItem_tuple_whole G hs pl J (by rw [B]; exact Y) ⟨.ref a,H,I,rfl,q⟩
end L2
namespace Sm
open PySem PySem.Spec L2
variable {σ:St} {st:Q1} {p:PV} {xs ps:List PV} {vs:List V} {o:CF} {Q:VK} {T:String} {K:PySem.W.Frag} {v:V} {tp:Pos} {e c:aD} {es:List aD} {n:Nat} {mg:Str->Option aB} {b:aA} {H1:Hp} {α β:Type} {Γ:Gam} {P:List PV->Q1->Hp->Tk->Prop} {s:aK} {fd:aP}
variable {X:Cx} {E:XK} {pos:Pos}
def oI (g:Int->Int->PV):OP:=fun st p q=>match p,q with
 | .int a,.int b=>.ok (g a b) st
 | _,_=>.stuck
def Yb:OP:=fun st p q=>match p,q with
 | .int a,.int b=>.ok (.int (a + b)) st
 | .str a,.str b=>if a.length + b.length<=lim then .ok (.str (a ++ b)) st else .stuck
 | .tup xs,.tup ys=>if xs.length + ys.length<=lim then .ok (.tup (xs ++ ys)) st else .stuck
 | p,q=>match Q0h st p,Q0h st q with
  | some xs,some ys=>if xs.length + ys.length<=lim then .ok (.lst (xs ++ ys)) st else .stuck
  | _,_=>.stuck
theorem Qt3:OpS X E (aW .Add) Yb:=⟨fun H ρ st p q x y Q R O J h=>by
 unfold Yb at h
 split at h
 ·cases O; cases J;exact WO.of Qtb ⟨_,_,rfl,rfl,now R h rfl⟩
 ·cases O; cases J
  split at h
  ·rename_i hl;exact WO.of Qci ⟨_,_,rfl,rfl,Xk hl,now R h rfl⟩
  ·exact h.elim
 ·split at h
  ·rename_i xs ys hl;obtain ⟨a,vs,rfl,G,Y,B⟩:=O;obtain ⟨b,us,rfl,I,U,rb⟩:=J;refine WO.of Qnw ?_
   by_cases e:xs=[]
   ·subst e;cases B;exact .inr ⟨a,b,us,rfl,rfl,SqT.of G,SqT.of I,now R h ⟨b,us,rfl,I,U,rb⟩⟩
   ·refine .inl ⟨a,b,vs,us,rfl,rfl,SqT.of G,SqT.of I,fun z=>e ?_,by rw [<- B.length,<- rb.length]; exact Xk hl,fun z=>?_,fun z=>Q29 R h (B.append rb)⟩
    ·subst z;cases xs with
     | nil=>rfl
     | cons _ _=>have:=B.length; simp at this
    ·subst z;have:ys=[]:=by
      cases ys with
      | nil=>rfl
      | cons _ _=>have:=rb.length; simp at this
     subst this;rw [G6] at h;exact now R h ⟨a,vs,rfl,G,Y,B⟩
  ·exact h.elim
 ·split at h
  ·rename_i xs ys e1 e2
   split at h
   ·rename_i hl;obtain ⟨a,vs,rfl,G,B⟩:=Q64 R O e1;obtain ⟨b,us,rfl,I,rb⟩:=Q64 R J e2;exact WO.of Q2u ⟨a,b,vs,us,rfl,rfl,G,I,by rw [<- B.length,<- rb.length]; exact Xk hl,Q4f R h (B.append rb)⟩
   ·exact h.elim
  ·exact h.elim⟩
theorem Qsy:OpS X E (aW .Sub) (oI fun a b=>.int (a - b)):=⟨fun H ρ st p q x y Q R G B h=>by
 unfold oI at h
 split at h
 ·cases G; cases B;exact WO.of Qt4 ⟨_,_,rfl,rfl,now R h rfl⟩
 ·exact h.elim⟩
def Q41:OP:=fun st p q=>match p,q with
 | .int a,.int b=>if (-(2 ^ 64) < a/\a < 2 ^ 64)\/(-(2 ^ 64) < b/\b < 2 ^ 64) then .ok (.int (a * b)) st else .stuck
 | .tup xs,.int b=>if xs≠[]/\1<=b/\xs.length * b.toNat<=4096 then .ok (.tup (List.replicate b.toNat xs).flatten) st else .stuck
 | p,.int b=>match Q0h st p with
  | some xs=>if -(2 ^ 63)<=b/\b < 2 ^ 63/\xs.length * b.toNat<=lim then .ok (.lst (List.replicate b.toNat xs).flatten) st else .stuck
  | none=>.stuck
 | _,_=>.stuck
theorem Qt0:OpS X E (aW .Mult) Q41:=⟨fun H ρ st p q x y Q R O J h=>by
 unfold Q41 at h
 split at h
 ·cases O; cases J
  split at h
  ·rename_i B;exact WO.of Qt7 ⟨_,_,rfl,rfl,B,now R h rfl⟩
  ·exact h.elim
 ·cases J
  split at h
  ·rename_i xs b B;obtain ⟨a,vs,rfl,I,U,G⟩:=O;refine WO.of Qnu ⟨a,b,vs,rfl,rfl,SqT.of I,fun z=>B.1 ?_,B.2.1,by rw [<- G.length]; exact B.2.2,fun z=>?_,fun z=>Q29 R h (G.rep _)⟩
   ·subst z;cases xs with
    | nil=>rfl
    | cons _ _=>have:=G.length; simp at this
   ·subst z;have e1:(List.replicate (Int.toNat 1) xs).flatten=xs:=by simp
    rw [e1] at h;exact now R h ⟨a,vs,rfl,I,U,G⟩
  ·exact h.elim
 ·cases J
  split at h
  ·rename_i xs e1
   split at h
   ·rename_i B;obtain ⟨a,vs,rfl,I,G⟩:=Q64 R O e1;exact WO.of Qt5 ⟨a,_,vs,rfl,rfl,I,B.1,B.2.1,by rw [<- G.length]; exact Xk B.2.2,Q4f R h (G.rep _)⟩
   ·exact h.elim
  ·exact h.elim
 ·exact h.elim⟩
def Q27:OP:=fun st p q=>match p,q with
 | .int a,.int b=>if 0 < b then .ok (.int (a % b)) st else .stuck
 | _,_=>.stuck
theorem Qt1:OpS X E (aW .Mod) Q27:=⟨fun H ρ st p q x y Q R G B h=>by
 unfold Q27 at h
 split at h
 ·cases G; cases B
  split at h
  ·rename_i I;exact WO.of Qt8 ⟨_,_,rfl,rfl,I,now R h rfl⟩
  ·exact h.elim
 ·exact h.elim⟩
def Qp2:OP:=fun st p q=>match p,q with
 | .int a,.int b=>if 0 < b/\b < 1073741824 then .ok (.int (a / b)) st else .stuck
 | _,_=>.stuck
theorem Qt2:OpS X E (aW .FloorDiv) Qp2:=⟨fun H ρ st p q x y Q R G B h=>by
 unfold Qp2 at h
 split at h
 ·cases G; cases B
  split at h
  ·rename_i I;exact WO.of Qnv ⟨_,_,rfl,rfl,I,now R h rfl⟩
  ·exact h.elim
 ·exact h.elim⟩
def Q40:OP:=fun st p q=>match p,q with
 | .int a,.int b=>if 0<=b/\b<=1000000/\a.natAbs < 2 ^ 64 then .ok (.int (a ^ b.toNat)) st else .stuck
 | _,_=>.stuck
theorem Qsz:OpS X E (aW .Pow) Q40:=⟨fun H ρ st p q x y Q R G B h=>by
 unfold Q40 at h
 split at h
 ·cases G; cases B
  split at h
  ·rename_i I;exact WO.of Qt6 ⟨_,_,rfl,rfl,I,now R h rfl⟩
  ·exact h.elim
 ·exact h.elim⟩
theorem Qck {op:CmpOp} {g:Int->Int->Bool} (G:OpR X (aV op) (rI0 fun i j=>.bl (g i j))):OpS X E (aV op) (oI fun a b=>.bl (g a b)):=⟨fun H ρ st p q x y Q R B I h=>by
 unfold oI at h
 split at h
 ·cases B; cases I;exact WO.of G ⟨_,_,rfl,rfl,now R h rfl⟩
 ·exact h.elim⟩
theorem Qw8:OpS X E (aV .LtE) (oI fun a b=>.bl (decide (a<=b))):=Qck Qwf
theorem Qw9:OpS X E (aV .Gt) (oI fun a b=>.bl (decide (b < a))):=Qck Qwg
theorem Qwa:OpS X E (aV .GtE) (oI fun a b=>.bl (decide (b<=a))):=Qck Qwh
def z8:List PV->Option (List Int)
 | []=>some []
 | .int i :: ps=>(z8 ps).map (i :: ·)
 | _ :: _=>none
def Q3n:List PV->Option (List Bool)
 | []=>some []
 | .bl i :: ps=>(Q3n ps).map (i :: ·)
 | _ :: _=>none
theorem Qbb (ns:List Int):z8 (ns.map .int)=some ns:=by
 induction ns with
 | nil=>rfl
 | cons n ns q=>rw [F2,z8,q]; rfl
theorem Qq6 (ns:List Bool):Q3n (ns.map .bl)=some ns:=by
 induction ns with
 | nil=>rfl
 | cons n ns q=>rw [F2,Q3n,q]; rfl
theorem Q4h:∀ {ps:List PV} {ns:List Int},z8 ps=some ns->ps=ns.map .int
 | [],ns,h=>by cases h; rfl
 | .int i :: ps,ns,h=>by
  rw [z8] at h;cases e:z8 ps with
  | none=>rw [e] at h; cases h
  | some ms=>rw [e] at h; cases h; rw [Q4h e]; rfl
 | .non :: _,_,h | .bl _ :: _,_,h | .str _ :: _,_,h | .tup _ :: _,_,h | .lst _ :: _,_,h | .fro _ :: _,_,h | .ref _ :: _,_,h | .dic :: _,_,h=>by cases h
theorem Qkn:∀ {ps:List PV} {ns:List Bool},Q3n ps=some ns->ps=ns.map .bl
 | [],ns,h=>by cases h; rfl
 | .bl i :: ps,ns,h=>by
  rw [Q3n] at h;cases e:Q3n ps with
  | none=>rw [e] at h; cases h
  | some ms=>rw [e] at h; cases h; rw [Qkn e]; rfl
 | .non :: _,_,h | .int _ :: _,_,h | .str _ :: _,_,h | .tup _ :: _,_,h | .lst _ :: _,_,h | .fro _ :: _,_,h | .ref _ :: _,_,h | .dic :: _,_,h=>by cases h
def oLt:OP:=fun st p q=>match p,q with
 | .int a,.int b=>.ok (.bl (decide (a < b))) st
 | .tup xs,.tup ys=>match z8 xs,z8 ys with
  | some ns,some ms=>.ok (.bl (HT.lexLt ns ms)) st
  | _,_=>.stuck
 | _,_=>.stuck
theorem Qw7 (Y:X.A.units + 64 < aa):OpS X E (aV .Lt) oLt:=⟨fun H ρ st p q x y Q R G B h=>by
 unfold oLt at h
 split at h
 ·cases G; cases B;exact WO.of Qwe ⟨_,_,rfl,rfl,now R h rfl⟩
 ·split at h
  ·rename_i ns ms e1 e2;obtain ⟨a,vs,rfl,I,Z,J⟩:=G;obtain ⟨b,us,rfl,O,U,rb⟩:=B;rw [Q4h e1] at J;rw [Q4h e2] at rb;rw [J.toInts] at I;rw [rb.toInts] at O;exact WO.of (Qt9 (by omega)) ⟨a,b,ns,ms,rfl,rfl,SqT.of I,SqT.of O,now R h rfl⟩
  ·exact h.elim
 ·exact h.elim⟩
def dep:Nat:=12
def oEq:OP:=fun st p q=>if Zq dep (der st p)=true/\Zq dep (der st q)=true then .ok (.bl (peq (der st p) (der st q))) st else .stuck
def oNe:OP:=fun st p q=>if Zq dep (der st p)=true/\Zq dep (der st q)=true then .ok (.bl (!peq (der st p) (der st q))) st else .stuck
theorem Qwb (U:X.A.units + 64 < aa):OpS X E (aV .Eq) oEq:=⟨fun H ρ st p q x y Q R J B h=>by
 unfold oEq at h
 split at h
 ·rename_i g;intro pins s σ v u I O G;exact (Qeg dep I g.1 g.2 (by unfold dep; omega) (Q0y R g.1 J) O (Q0y R g.2 B) G).2.1 _ _ _ _ ⟨.bl _,H,I,rfl,now R h rfl⟩
 ·exact h.elim⟩
theorem Qw6 (U:X.A.units + 64 < aa):OpS X E (aV .NotEq) oNe:=⟨fun H ρ st p q x y Q R J B h=>by
 unfold oNe at h
 split at h
 ·rename_i g;intro pins s σ v u I O G;exact (Qeg dep I g.1 g.2 (by unfold dep; omega) (Q0y R g.1 J) O (Q0y R g.2 B) G).2.2 _ _ _ _ ⟨.bl _,H,I,rfl,now R h rfl⟩
 ·exact h.elim⟩
def oIn (neg:Bool):OP:=fun st p q=>match Xb st q with
 | some xs=>if Zq dep (der st p)=true/\xs.all (Zq dep)=true then .ok (.bl ((xs.any fun y=>peq y (der st p)) != neg)) st else .stuck
 | none=>.stuck
open Classical in
theorem Qbc {pins:List (aA × Obj)} {H:Hp} {ρ:Tk} {s:aC} {A:aQ} {p:PV} {xs:List PV} {x:V} {v:aB} {vs:List V} {its:List aB} (I:Inv X pins σ H s) (hu:A.units + dep < aa) (R:Rel H ρ st)
  (gp:Zq dep (der st p)=true) (Y:xs.all (Zq dep)=true) (rp:Rep H ρ p x) (rv:RelV x v) (Z:RepL H ρ xs vs) (vi:Vals vs its):∃ e:aB->Bool,(∀ u,u∈its.toArray->SeqAt.EqAt A s u v (e u))/\its.toArray.any e=xs.any fun y=>peq y (der st p):=by
 have a3:∀ u∈its,∃ q∈xs,∃ y,Rep H Tk.nil q y/\RelV y u:=fun u hu=>by
  obtain ⟨j,U,rfl⟩:=List.getElem_of_mem hu;have l1:=vi.length;have l2:=Z.length;obtain ⟨y,e1,e2⟩:=(qm Y Z).get (O5 (show j < xs.length by omega));obtain ⟨w,e3,e4⟩:=vi.get e1;rw [O5 U] at e3; cases e3;exact ⟨_,List.getElem_mem _,y,e2,e4⟩
 refine ⟨fun u=>decide (∃ q∈xs,∃ y,Rep H Tk.nil q y/\RelV y u/\peq q (der st p)=true),fun u hm=>?_,?_⟩
 ·have a2:u∈its:=by simpa using hm
  by_cases z:∃ q∈xs,∃ y,Rep H Tk.nil q y/\RelV y u/\peq q (der st p)=true
  ·show SeqAt.EqAt A s u v (decide _);rw [bQ z];obtain ⟨q,B,y,J,O,e⟩:=z;have:=(Qeg dep I ((G7.mp Y) q B) gp hu J O (Q0y R gp rp) rv).1;rw [e] at this;exact this
  ·show SeqAt.EqAt A s u v (decide _);rw [bP z];obtain ⟨q,B,y,J,O⟩:=a3 u a2;have:=(Qeg dep I ((G7.mp Y) q B) gp hu J O (Q0y R gp rp) rv).1;cases e:peq q (der st p) with
   | true=>exact absurd ⟨q,B,y,J,O,e⟩ z
   | false=>rw [e] at this; exact this
 ·rw [Bool.eq_iff_iff,Array.any_eq_true,List.any_eq_true];constructor
  ·rintro ⟨j,U,e⟩;obtain ⟨q,B,y,J,O,e⟩:=of_decide_eq_true e;exact ⟨q,B,e⟩
  ·rintro ⟨q,B,e⟩;obtain ⟨j,U,rfl⟩:=List.getElem_of_mem B;have l1:=vi.length;have l2:=Z.length;have G:j < its.length:=by omega
   obtain ⟨y,e1,e2⟩:=(qm Y Z).get (O5 U);obtain ⟨w,e3,e4⟩:=vi.get e1;refine ⟨j,by simpa using G,bQ ⟨_,B,y,e2,?_,e⟩⟩;rw [O5 G] at e3; cases e3;simpa using e4
theorem Qiu (hu:X.A.units + 64 < aa):OpS X E (aV .NotIn) (oIn true):=⟨fun H ρ st p q x y Q R J Z h=>by
 unfold oIn at h
 split at h
 ·rename_i xs es
  split at h
  ·rename_i g;obtain ⟨t,a,vs,rfl,O,U⟩:=Q51 (K:=X.K) R Z es;intro pins s σ v u I Y ru;cases ru;rw [Bool.bne_true] at h;cases t with
   | true=>
    obtain ⟨its,r,pl,hz⟩:=I.tuple O;obtain ⟨e,B,G⟩:=Qbc (A:=X.A.in1) I (by show X.A.units + 1 + dep < aa; unfold dep; omega) R g.1 g.2 J Y U r;refine SeqAt.notIn_tupleAt e pl B ⟨.bl _,H,I,rfl,?_⟩;rw [G];exact now R h rfl
   | false=>
    obtain ⟨its,r,pl,hz⟩:=I.list O;obtain ⟨e,B,G⟩:=Qbc (A:=X.A.in1) I (by show X.A.units + 1 + dep < aa; unfold dep; omega) R g.1 g.2 J Y U r;refine SeqAt.notIn_listAt e pl.isList B ⟨.bl _,H,I,rfl,?_⟩;rw [G];exact now R h rfl
  ·exact h.elim
 ·exact h.elim⟩
variable {H:Hp} {ρ:Tk}
theorem RepL.atI {ps:List PV} {vs:List V} {i:Int} {p:PV} (r:RepL H ρ ps vs) (e:atI ps i=some p):∃ v,L2.atI vs i=some v/\Rep H ρ p v:=by
 unfold L2.atI at e ⊢;rw [<- r.length];cases q:ixN ps.length i with
 | none=>rw [q] at e; cases e
 | some j=>
  rw [q] at e;exact r.get e
def cut {α:Type} (xs:List α) (lo hi:Option Int):List α:=(xs.drop (HT.sIx xs.length 0 lo)).take (HT.sIx xs.length xs.length hi - HT.sIx xs.length 0 lo)
theorem RepL.cut (r:RepL H ρ ps vs) (lo hi:Option Int):RepL H ρ (Sm.cut ps lo hi) (Qbh vs lo hi):=by
 unfold Sm.cut Qbh;rw [<- r.length];exact (r.drop _).take _
section
variable {X:Cx} {E:XK} {pos:Pos} {a b:aD} {ma mb:ME}
def oIx:OP:=fun st p q=>match Xb st p,q with
 | some xs,.int i=>okO st (atI xs i)
 | _,_=>.stuck
theorem Qvr (Y:SimE X E a ma) (hb:SimE X E b mb) (hs:Q9y b:=by exact fun _ _=>rfl):SimE X E (.Subscript a b pos) (mOp oIx ma mb):=
 ⟨fun Γ σ H ρ st Q R G h=>WE.of (Qqr Qtz Yi Yi hs) (Y.use R G h.bind fun p Z H1 ρ1 v x1 R1 U r1 h1=>hb.use R1 U h1.bind fun q a3 H2 a2 u x2 R2 G2 r2 h2=>by
  unfold oIx at h2
  split at h2
  ·rename_i xs i e;cases r2;cases B:atI xs i with
   | none=>rw [B] at h2; exact h2.elim
   | some w=>
    rw [B] at h2;obtain ⟨t,b,vs,rfl,J,ra⟩:=Q51 (K:=X.K) R2 (r1.ext x2) e;obtain ⟨z,O,I⟩:=ra.atI B;cases t with
    | true=>exact .inr (.inl ⟨b,vs,i,z,rfl,rfl,J,O,now R2 h2 I⟩)
    | false=>exact .inl ⟨b,vs,i,z,rfl,rfl,J,O,now R2 h2 I⟩
  ·exact h2.elim)⟩
structure SimO (X:Cx) (E:XK) (o:Option aD) (m:Gam->Q1->Res (Option Int)):Prop where
 run:∀ (Γ:Gam) (σ:St) (H:Hp) (ρ:Tk) (st:Q1) (P:Option Int->Q1->Hp->Tk->Prop) (Q:Option Int->Hp->Prop),Rel H ρ st->EnvR H ρ Γ σ->Acc X.mg E H ρ P (m Γ st) ->
  (∀ i st1 H1 ρ1,Ext H ρ H1 ρ1->Rel H1 ρ1 st1->EnvR H1 ρ1 Γ σ->P i st1 H1 ρ1->Q i H1)->∃ t,PO X o t/\t σ H Q
def Ym:Gam->Q1->Res (Option Int):=fun _ st=>.ok none st
def Wm (m:ME):Gam->Q1->Res (Option Int):=fun Γ st=>(m Γ st).bind fun p st1=>match p with
 | .int i=>.ok (some i) st1
 | _=>.stuck
theorem Qmh:SimO X E none Ym:=⟨fun Γ σ H ρ st P Q R G h k=>⟨_,Qne,k none st H ρ (Ext.refl _ _) R G (h H ρ (Ext.refl _ _) R)⟩⟩
theorem Qmg (J:SimE X E a ma):SimO X E (some a) (Wm ma):=⟨fun Γ σ H ρ st P Q R G h k=>⟨_,Qnd Yi,J.use R G h.bind fun p q H1 ρ1 v I B U O h1=>by
 cases p with
 | int i=>exact ⟨i,O,k (some i) q H1 ρ1 I B U (h1 H1 ρ1 (Ext.refl _ _) B)⟩
 | _=>exact h1.elim⟩⟩
def oSl (st:Q1) (p:PV) (lo hi:Option Int):Res PV:=match p with
 | .tup xs=>.ok (.tup (cut xs lo hi)) st
 | p=>match xi st p with
  | some xs=>.ok (.lst (cut xs lo hi)) st
  | none=>.stuck
def mSl (ma:ME) (ml mh:Gam->Q1->Res (Option Int)):ME:=fun Γ st=>(ma Γ st).bind fun p st1=>(ml Γ st1).bind fun lo st2=>(mh Γ st2).bind fun hi st3=>oSl st3 p lo hi
def TO.w (X:Cx) (o:Option aD):TO:=fun σ H Q=>∃ t,PO X o t/\t σ H Q
theorem Qw1 {o:Option aD}:PO X o (TO.w X o):=fun pins s σ H Q I ⟨t,h,q⟩=>h pins s σ H Q I q
theorem Qhm {lo hi:Option aD} {ml mh:Gam->Q1->Res (Option Int)} {p2:Pos} (B:SimE X E a ma) (hl:SimO X E lo ml) (hh:SimO X E hi mh):SimE X E (.Subscript a (.Slice lo hi none p2) pos) (mSl ma ml mh):=
 ⟨fun Γ σ H ρ st Q R G h=>WE.of (Qii (sl_tup.or (sl_whole.or Qmj)) Yi Qw1 Qw1) (B.use R G h.bind fun p U H1 ρ1 v x1 R1 G1 r1 h1=>by
  refine hl.run Γ σ H1 ρ1 U _ _ R1 G1 h1.bind fun l Z H2 Y x2 R2 G2 h2=>?_
  refine hh.run Γ σ H2 Y Z _ _ R2 G2 h2.bind fun u a2 H3 a3 x3 J G3 q=>?_
  have r3:=r1.ext (x2.trans x3);unfold oSl at q
  split at q
  ·rename_i xs;obtain ⟨a,vs,rfl,B,na,I⟩:=r3
   by_cases O:HT.sIx vs.length 0 l=0/\HT.sIx vs.length vs.length u=vs.length
   ·refine .inr (.inl ⟨a,vs,rfl,SqT.of B,O,?_⟩);have e:cut xs l u=xs:=by
     unfold cut;rw [I.length,O.1,O.2,List.drop_zero,Nat.sub_zero,<- I.length,List.take_length]
    rw [e] at q;exact now J q ⟨a,vs,rfl,B,na,I⟩
   ·exact .inl ⟨a,vs,rfl,SqT.of B,O,Q29 J q (I.cut l u)⟩
  ·split at q
   ·rename_i xs e;obtain ⟨a,vs,rfl,B,I⟩:=Q4g J r3 e;exact .inr (.inr ⟨a,vs,rfl,.inl B,Q4f J q (I.cut l u)⟩)
   ·exact q.elim)⟩
variable {es:List aD} {e:aD} {mr:Gam->Q1->Res (List PV)}
def Qw (o:CF) (mr:Gam->Q1->Res (List PV)):ME:=fun Γ st=>(mr Γ st).bind fun ps st1=>o st1 ps
theorem CallS.use {f:aB} (s:CallS X E f o) {P:PV->Q1->Hp->Tk->Prop} {Q:VK} {xs:List V} (R:Rel H ρ st) (I:RepL H ρ ps xs) (h:Acc X.mg E H ρ P (o st ps))
  (k:∀ p q H1 ρ1 v,Ext H ρ H1 ρ1->Rel H1 ρ1 q->Rep H1 ρ1 p v->P p q H1 ρ1->Q v H1):WC X f xs H Q:=by
 refine s.run H ρ st ps xs Q R I ?_;cases r:o st ps with
 | ok p q=>rw [r] at h; exact fun H' ρ' B G v J=>k p q H' ρ' v B G J (h H' ρ' B G)
 | exc e st=>rw [r] at h; exact h
 | stuck=>rw [r] at h; exact h
theorem Qhu {id:String} {x:Str} {p:Pos} (Y:CallS X E (.builtin id) o) (hg:Gl X x) (Z:X.mg x=none) (hv:aZ x=some (.builtin id)) (ha:SimA X E (e :: es) mr) (O:x≠"__name__" := by decide) (B:(x == ("__debug__" : Str))=false:=by decide)
  (U:aO (e :: es) X.env=(false,aM e X.env) :: aO es X.env:=by rfl) (I:(aU pos (aO es X.env)).any (·.1)=false:=by rfl):SimE X E (.Call (.Name x p) (e :: es) [] pos) (Qw o mr):=
 ⟨fun Γ σ H ρ st Q R G h=>WE.of (Yd Qk6 hg Z hv Q24 O B U I) (ha.use R G h.bind fun ps J H1 ρ1 vs x1 R1 G1 r1 h1=>Y.use R1 r1 h1 fun _ _ _ _ v _ _ r q=>q v r)⟩
theorem Qa8 {x:Str} {p:Pos} (Y:CallS X E (.type T) o) (hg:Gl X x) (Z:X.mg x=none) (hv:aZ x=some (.type T)) (ha:SimA X E (e :: es) mr) (O:x≠"__name__" := by decide) (B:(x == ("__debug__" : Str))=false:=by decide)
  (U:aO (e :: es) X.env=(false,aM e X.env) :: aO es X.env:=by rfl) (I:(aU pos (aO es X.env)).any (·.1)=false:=by rfl):SimE X E (.Call (.Name x p) (e :: es) [] pos) (Qw o mr):=
 ⟨fun Γ σ H ρ st Q R G h=>WE.of (Qfe Qk6 hg Z hv Q24 O B U I) (ha.use R G h.bind fun ps J H1 ρ1 vs x1 R1 G1 r1 h1=>Y.use R1 r1 h1 fun _ _ _ _ v _ _ r q=>q v r)⟩
theorem Wr {xs:List V} (r:RepL H ρ [p] xs):∃ v,xs=[v]/\Rep H ρ p v:=by
 obtain ⟨v,t,rfl,h1,h2⟩:=r;cases h2;exact ⟨v,rfl,h1⟩
theorem Q21 {q:PV} {xs:List V} (r:RepL H ρ [p,q] xs):∃ v u,xs=[v,u]/\Rep H ρ p v/\Rep H ρ q u:=by
 obtain ⟨v,t,rfl,h1,h2⟩:=r;obtain ⟨u,rfl,B⟩:=Wr h2;exact ⟨v,u,rfl,h1,B⟩
def Zt:CF:=fun st ps=>match ps with
 | [p]=>match Xb st p with
  | some xs=>.ok (.int xs.length) st
  | none=>match p with
   | .str x=>if x.length<=lim then .ok (.int x.length) st else .stuck
   | _=>.stuck
 | _=>.stuck
theorem Qu6:CallS X E (.builtin "len") Zt:=⟨fun H ρ st ps xs Q R q h=>by
 unfold Zt at h
 split at h
 ·rename_i p;obtain ⟨v,rfl,r⟩:=Wr q
  split at h
  ·rename_i ys e;obtain ⟨t,a,vs,rfl,G,B⟩:=Q51 (K:=X.K) R r e;rw [B.length] at h;exact WC.of Q9s ⟨a,vs,rfl,Qrx G,now R h rfl⟩
  ·split at h
   ·cases r
    split at h
    ·rename_i hl;exact WC.of Q9r ⟨_,rfl,Xk hl,now R h rfl⟩
    ·exact h.elim
   ·exact h.elim
 ·exact h.elim⟩
def X6 (g:List Int->Option PV):CF:=fun st ps=>match ps with
 | [p]=>match (Xb st p).bind z8 with
  | some ns=>okO st (g ns)
  | none=>.stuck
 | _=>.stuck
def xx (g:List Bool->PV):CF:=fun st ps=>match ps with
 | [p]=>match (Xb st p).bind Q3n with
  | some ns=>.ok (g ns) st
  | none=>.stuck
 | _=>.stuck
theorem Q6d {ns:List Int} (R:Rel H ρ st) (r:Rep H ρ p v) (e:(Xb st p).bind z8=some ns):∃ (t:Bool) (a:aA),v=.ref a/\SqK K t H a (ns.map V.int):=by
 cases q:Xb st p with
 | none=>rw [q] at e; cases e
 | some xs=>
  rw [q] at e;obtain ⟨t,a,vs,rfl,B,G⟩:=Q51 (K:=K) R r q;rw [Q4h e] at G;rw [G.toInts] at B;exact ⟨t,a,rfl,B⟩
theorem Qen {ns:List Bool} (R:Rel H ρ st) (r:Rep H ρ p v) (e:(Xb st p).bind Q3n=some ns):∃ (t:Bool) (a:aA),v=.ref a/\SqK K t H a (ns.map V.bl):=by
 cases q:Xb st p with
 | none=>rw [q] at e; cases e
 | some xs=>
  rw [q] at e;obtain ⟨t,a,vs,rfl,B,G⟩:=Q51 (K:=K) R r q;rw [Qkn e] at G;rw [G.toBls] at B;exact ⟨t,a,rfl,B⟩
theorem Qu3 (B:X.calm=true):CallS X E (.builtin "sum") (X6 fun ns=>some (.int ns.sum)):=⟨fun H ρ st ps xs Q R q h=>by
 unfold X6 at h
 split at h
 ·obtain ⟨v,rfl,r⟩:=Wr q
  split at h
  ·rename_i ns e;obtain ⟨t,a,rfl,G⟩:=Q6d (K:=X.K) R r e;exact WC.of (Qk7 t B) ⟨a,ns,rfl,G,now R h rfl⟩
  ·exact h.elim
 ·exact h.elim⟩
theorem Qu8 (B:X.calm=true):CallS X E (.builtin "all") (xx fun ns=>.bl (ns.all id)):=⟨fun H ρ st ps xs Q R q h=>by
 unfold xx at h
 split at h
 ·obtain ⟨v,rfl,r⟩:=Wr q
  split at h
  ·rename_i ns e;obtain ⟨t,a,rfl,G⟩:=Qen (K:=X.K) R r e;exact WC.of (Qk9 t B) ⟨a,ns,rfl,G,now R h rfl⟩
  ·exact h.elim
 ·exact h.elim⟩
theorem Qu7 (B:X.calm=true):CallS X E (.builtin "any") (xx fun ns=>.bl (ns.any id)):=⟨fun H ρ st ps xs Q R q h=>by
 unfold xx at h
 split at h
 ·obtain ⟨v,rfl,r⟩:=Wr q
  split at h
  ·rename_i ns e;obtain ⟨t,a,rfl,G⟩:=Qen (K:=X.K) R r e;exact WC.of (Qk8 t B) ⟨a,ns,rfl,G,now R h rfl⟩
  ·exact h.elim
 ·exact h.elim⟩
def maxI:List Int->Option Int
 | []=>none
 | n :: ns=>some (ns.foldl (fun a b=>if b > a then b else a) n)
def Qzb:List Int->Option Int
 | []=>none
 | n :: ns=>some (ns.foldl (fun a b=>if b < a then b else a) n)
theorem Q8c:∀ (ns:List Int) (n:Int),(ns.foldl (fun a b=>if b > a then b else a) n=n\/ns.foldl (fun a b=>if b > a then b else a) n∈ns)/\n<=ns.foldl (fun a b=>if b > a then b else a) n/\∀ k∈ns,k<=ns.foldl (fun a b=>if b > a then b else a) n
 | [],n=>⟨.inl rfl,Int.le_refl _,fun k h=>by cases h⟩
 | m :: ns,n=>by
  obtain ⟨h1,h2,G⟩:=Q8c ns (if m > n then m else n);rw [List.foldl_cons];refine ⟨?_,?_,fun k B=>?_⟩
  ·rcases h1 with e | e
   ·by_cases q:m > n
    ·rw [bN q] at e ⊢; exact .inr (by rw [e]; exact D5)
    ·rw [bO q] at e ⊢; exact .inl e
   ·exact .inr (D1 _ e)
  ·by_cases q:m > n
   ·rw [bN q] at h2 ⊢; omega
   ·rw [bO q] at h2 ⊢; exact h2
  ·rcases D4.mp B with rfl | B
   ·by_cases q:k > n
    ·rw [bN q] at h2 ⊢; exact h2
    ·rw [bO q] at h2 ⊢; omega
   ·exact G k B
theorem Q8b:∀ (ns:List Int) (n:Int),(ns.foldl (fun a b=>if b < a then b else a) n=n\/ns.foldl (fun a b=>if b < a then b else a) n∈ns)/\ns.foldl (fun a b=>if b < a then b else a) n<=n/\∀ k∈ns,ns.foldl (fun a b=>if b < a then b else a) n<=k
 | [],n=>⟨.inl rfl,Int.le_refl _,fun k h=>by cases h⟩
 | m :: ns,n=>by
  obtain ⟨h1,h2,G⟩:=Q8b ns (if m < n then m else n);rw [List.foldl_cons];refine ⟨?_,?_,fun k B=>?_⟩
  ·rcases h1 with e | e
   ·by_cases q:m < n
    ·rw [bN q] at e ⊢; exact .inr (by rw [e]; exact D5)
    ·rw [bO q] at e ⊢; exact .inl e
   ·exact .inr (D1 _ e)
  ·by_cases q:m < n
   ·rw [bN q] at h2 ⊢; omega
   ·rw [bO q] at h2 ⊢; exact h2
  ·rcases D4.mp B with rfl | B
   ·by_cases q:k < n
    ·rw [bN q] at h2 ⊢; exact h2
    ·rw [bO q] at h2 ⊢; omega
   ·exact G k B
def Q3c:CF:=fun st ps=>match ps with
 | [.int a,.int b]=>.ok (.int (if b > a then b else a)) st
 | ps=>X6 (fun ns=>(maxI ns).map .int) st ps
def Qgq:CF:=fun st ps=>match ps with
 | [.int a,.int b]=>.ok (.int (if b < a then b else a)) st
 | ps=>X6 (fun ns=>(Qzb ns).map .int) st ps
theorem Qu5 (B:X.calm=true):CallS X E (.builtin "max") Q3c:=⟨fun H ρ st ps xs Q R G h=>by
 unfold Q3c at h
 split at h
 ·obtain ⟨v,u,rfl,Y,J⟩:=Q21 G;cases Y; cases J;exact WC.of (Qgm B) ⟨_,_,rfl,now R h rfl⟩
 ·unfold X6 at h
  split at h
  ·obtain ⟨v,rfl,r⟩:=Wr G
   split at h
   ·rename_i ns e;cases ns with
    | nil=>exact h.elim
    | cons n ns=>
     obtain ⟨t,a,rfl,U⟩:=Q6d (K:=X.K) R r e;refine WC.of (Qgk t B) ⟨a,_,rfl,U,by simp,fun m q I=>?_⟩;have O:m=ns.foldl (fun a b=>if b > a then b else a) n:=by
      obtain ⟨h1,h2,Z⟩:=Q8c ns n;have g1:ns.foldl (fun a b=>if b > a then b else a) n<=m:=by
       rcases h1 with e | e
       ·rw [e]; exact I _ D5
       ·exact I _ (D1 _ e)
      have g2:m<=ns.foldl (fun a b=>if b > a then b else a) n:=by
       rcases D4.mp q with rfl | q
       ·exact h2
       ·exact Z m q
      omega
     subst O;exact now R h rfl
   ·exact h.elim
  ·exact h.elim⟩
theorem Qu4 (B:X.calm=true):CallS X E (.builtin "min") Qgq:=⟨fun H ρ st ps xs Q R G h=>by
 unfold Qgq at h
 split at h
 ·obtain ⟨v,u,rfl,Y,J⟩:=Q21 G;cases Y; cases J;exact WC.of (Qgj B) ⟨_,_,rfl,now R h rfl⟩
 ·unfold X6 at h
  split at h
  ·obtain ⟨v,rfl,r⟩:=Wr G
   split at h
   ·rename_i ns e;cases ns with
    | nil=>exact h.elim
    | cons n ns=>
     obtain ⟨t,a,rfl,U⟩:=Q6d (K:=X.K) R r e;refine WC.of (Qgi t B) ⟨a,_,rfl,U,by simp,fun m q I=>?_⟩;have O:m=ns.foldl (fun a b=>if b < a then b else a) n:=by
      obtain ⟨h1,h2,Z⟩:=Q8b ns n;have g1:m<=ns.foldl (fun a b=>if b < a then b else a) n:=by
       rcases h1 with e | e
       ·rw [e]; exact I _ D5
       ·exact I _ (D1 _ e)
      have g2:ns.foldl (fun a b=>if b < a then b else a) n<=m:=by
       rcases D4.mp q with rfl | q
       ·exact h2
       ·exact Z m q
      omega
     subst O;exact now R h rfl
   ·exact h.elim
  ·exact h.elim⟩
def U5:CF:=fun st ps=>match ps with
 | [p]=>match Xb st p with
  | some xs=>.ok (.tup xs) st
  | none=>.stuck
 | _=>.stuck
theorem Qk3:CallS X E (.type "tuple") U5:=⟨fun H ρ st ps xs Q R G h=>by
 unfold U5 at h
 split at h
 ·rename_i p;obtain ⟨v,rfl,r⟩:=Wr G
  split at h
  ·rename_i ys e;cases p with
   | tup zs=>
    cases e;obtain ⟨a,vs,rfl,q,I,B⟩:=r;exact WC.of Q19 ⟨a,vs,rfl,.inr ⟨SqT.of q,now R h ⟨a,vs,rfl,q,I,B⟩⟩⟩
   | _=>
    obtain ⟨a,vs,rfl,q,B⟩:=Q4g R r e;exact WC.of Q19 ⟨a,vs,rfl,.inl ⟨.inl q,Q29 R h B⟩⟩
  ·exact h.elim
 ·exact h.elim⟩
def tyN:PV->String
 | .non => "NoneType"
 | .bl _ => "bool"
 | .int _ => "int"
 | .str _ => "str"
 | .tup _ => "tuple"
 | .lst _ => "list"
 | .fro _ => "list"
 | .ref _ => "list"
 | .dic => "dict"
def dpv (st:Q1):PV->PV
 | .ref i=>match st[i]? with
  | some (.dic _)=>.dic
  | some (.dtp _)=>.dic
  | _=>.ref i
 | p=>p
def isI (T:String) (p:PV):Bool:=tyN p == T || (T == "int" && tyN p == "bool")
def Q1s (st:Q1):PV->Bool
 | .ref i=>match st[i]? with
  | some (.frd _)=>true
  | some (.obj _ _)=>true
  | _=>false
 | _=>false
theorem Qv7 (G:Q1s st p=false) (R:Rel H ρ st) (r:Rep H ρ p v):TyOf K H v (.type (tyN (dpv st p))):=by
 cases p with
 | non=>cases r; exact .non
 | bl b=>cases r; exact .bl b
 | int i=>cases r; exact .int i
 | str x=>cases r; exact .str x
 | tup ps=>obtain ⟨a,vs,rfl,h,_⟩:=r; exact .tup h
 | lst ps=>obtain ⟨a,vs,rfl,h,_⟩:=r; exact .lst h
 | fro ps=>
  obtain ⟨a,vs,rfl,h,_⟩:=r;rcases h with h | ⟨o,h⟩
  ·exact .lst h
  ·exact .frz h
 | ref i=>
  obtain ⟨a,e,rfl⟩:=r;have hl:i < st.length:=by rw [<- R.len]; exact (O0.mp e).1
  have hs:=O5 hl;have q:=R.cell i a st[i] e hs;cases B:st[i] with
  | lst xs=>rw [B] at q hs; simp only [dpv,hs]; obtain ⟨vs,h,_⟩:=q; exact .lst h
  | dic xs=>rw [B] at q hs; simp only [dpv,hs]; obtain ⟨vs,h,_⟩:=q; exact .dK h
  | dtp xs=>rw [B] at q hs; simp only [dpv,hs]; obtain ⟨vs,h,_⟩:=q; exact .dT h
  | frd xs=>rw [B] at hs; simp only [Q1s,hs] at G; cases G
  | obj C xs=>rw [B] at hs; simp only [Q1s,hs] at G; cases G
 | dic=>obtain ⟨a,rfl,h,_⟩:=r; exact .dK h
def Q69:List String:=["int", "bool", "str", "tuple", "list", "dict"]
theorem Qts (K:PySem.W.Frag) (q:T∈Q69) (p:PV):PySem.W.kitOne K (.type (tyN p)) (.type T)=some (isI T p):=by
 have q:T = "int" \/ T = "bool" \/ T = "str" \/ T = "tuple" \/ T = "list" \/ T = "dict" := by simpa [Q69] using q
 rcases q with rfl | rfl | rfl | rfl | rfl | rfl <;> cases p <;> first | rfl | kernel_rfl
def Qb1 (T:String) (m:ME):ME:=fun Γ st=>(m Γ st).bind fun p st1=>if Q1s st1 p=true then .stuck else .ok (.bl (isI T (dpv st1 p))) st1
theorem Qsa {B:Str} {p tp:Pos} (hT:T∈Q69) (ha:SimE X E a ma) (hg:Gl X "isinstance") (hm:X.mg "isinstance" = none) (U:Gl X B) (a2:X.mg B=none) (Y:aZ B=some (.type T))
  (hn:B≠"__name__" := by decide) (hd:(B == ("__debug__" : Str))=false:=by decide)
  (he:aO [a,.Name B tp] X.env=(false,aM a X.env) :: aO [.Name B tp] X.env:=by rfl) (Z:aO [.Name B tp] X.env=(false,aM (.Name B tp) X.env) :: aO [] X.env:=by rfl) (J:(aU pos (aO [.Name B tp] X.env)).any (·.1)=false:=by rfl) :
  SimE X E (.Call (.Name "isinstance" p) [a,.Name B tp] [] pos) (Qb1 T ma):=
 ⟨fun Γ σ H ρ st Q R G h=>WE.of (Yd Qbn hg hm Qr (Qu Yi (Qu (Qds U a2 Y (v:=.ty T) rfl hn hd) Yg Z) he) (by decide) (by decide) he J)
  (ha.use R G h.bind fun q I H1 ρ1 v x1 R1 G1 r1 h1=>by
   by_cases O:Q1s I q=true
   ·rw [bN O] at h1; exact h1.elim
   ·rw [bO O] at h1;exact ⟨v,.ty T,.type T,_,_,rfl,rfl,Qv7 (by simpa using O) R1 r1,Qts X.K hT (dpv I q),now R1 h1 rfl⟩)⟩
end
abbrev GA:=PV->Gam->Option Gam
abbrev GAs:=List PV->Gam->Option Gam
variable {gs:GAs}
structure SimG (X:Cx) (tg:aD) (ga:GA):Prop where
 run:∀ (Γ Γ':Gam) (σ:St) (H:Hp) (ρ:Tk) (p:PV) (v:V) (Q:St->Hp->Prop),EnvR H ρ Γ σ->Rep H ρ p v->ga p Γ=some Γ'->(∀ σ',EnvR H ρ Γ' σ'->Q σ' H)->∃ t,PG X tg t/\t v σ H Q
structure SimGs (X:Cx) (tgs:List aD) (n:Nat) (ga:GAs):Prop where
 run:∀ (Γ Γ':Gam) (σ:St) (H:Hp) (ρ:Tk) (ps:List PV) (vs:List V) (Q:St->Hp->Prop),EnvR H ρ Γ σ->RepL H ρ ps vs->ga ps Γ=some Γ'->(∀ σ',EnvR H ρ Γ' σ'->Q σ' H)->∃ t,PGs X tgs t/\t vs σ H Q
 len:∀ ps Γ Γ',ga ps Γ=some Γ'->ps.length=n
def Qg (i:Nat):GA:=fun p Γ=>some (Γ.set i (some p))
def Ki:GAs:=fun ps Γ=>match ps with
 | []=>some Γ
 | _=>none
def Y5 (g:GA) (gs:GAs):GAs:=fun ps Γ=>match ps with
 | p :: r=>(g p Γ).bind (gs r)
 | []=>none
def Kh (gs:GAs):GA:=fun p Γ=>match p with
 | .tup ps=>gs ps Γ
 | _=>none
theorem Qmp {i:Nat} {x:Str} (q:X.N.Nodup) (hi:X.N[i]?=some x:=by rfl) (I:Loc X.env.scope x:=by first | exact Or.inl rfl | exact Or.inr rfl) (J:X.fn x=true\/X.env.scope.names.lookup x=some .local:=by first | exact .inl rfl | exact .inr rfl):SimG X (.Name x pos) (Qg i):=
 ⟨fun Γ B σ H ρ p v Q G r e k=>⟨_,Qni q hi I J,by cases e; exact k _ (G.set r i)⟩⟩
theorem Qmn:SimGs X [] 0 Ki:=⟨fun Γ q σ H ρ ps vs Q G r e k=>⟨_,Qng,by
 cases ps with
 | nil=>cases e; cases r; exact ⟨rfl,k σ G⟩
 | cons _ _=>cases e⟩,fun ps Γ q e=>by
 cases ps with
 | nil=>rfl
 | cons _ _=>cases e⟩
def WGx (X:Cx) (tg:aD):TG:=fun v σ H Q=>∃ t,PG X tg t/\t v σ H Q
theorem Qnh {tg:aD}:PG X tg (WGx X tg):=fun pins s σ H v u Q I r ⟨t,h,q⟩=>h pins s σ H v u Q I r q
def Qzn (X:Cx) (tgs:List aD):TGs:=fun v σ H Q=>∃ t,PGs X tgs t/\t v σ H Q
theorem Qqp {B:List aD}:PGs X B (Qzn X B):=fun pins s σ H v u Q I r ⟨t,h,q⟩=>h pins s σ H v u Q I r q
theorem Qhj {g:GA} (h1:SimG X e g) (h2:SimGs X es n gs) (hs:(aq (e :: es) X.env).map (·.2)=assign e X.env :: (aq es X.env).map (·.2):=by rfl):SimGs X (e :: es) (n + 1) (Y5 g gs):=
 ⟨fun Γ q σ H ρ ps vs Q G r eq k=>⟨_,Qif Qnh Qqp hs,by
  cases ps with
  | nil=>cases eq
  | cons p ps=>
   obtain ⟨v,t,rfl,J,I⟩:=r;have eq:(g p Γ).bind (gs ps)=some q:=eq;cases e1:g p Γ with
   | none=>rw [e1] at eq; cases eq
   | some Γ1=>
    rw [e1] at eq;exact ⟨v,t,rfl,h1.run Γ Γ1 σ H ρ p v _ G J e1 fun B O=>h2.run Γ1 q B H ρ ps t _ O I eq k⟩⟩,fun ps Γ q e=>by
  cases ps with
  | nil=>cases e
  | cons p ps=>
   have e:(g p Γ).bind (gs ps)=some q:=e;cases e1:g p Γ with
   | none=>rw [e1] at e; cases e
   | some Γ1=>rw [e1] at e; rw [D7,h2.len ps Γ1 q e]⟩
theorem Qs1 {k:Nat} (U:X.calm=true) (h:SimGs X es n gs) (O:(aq es X.env).length=n:=by rfl) (I:(aq es X.env).findIdx? (·.1)=none:=by rfl):SimG X (.Tuple es k pos) (Kh gs):=
 ⟨fun Γ B σ H ρ p v Q G r e q=>⟨_,Qsq U Qqp O I,by
  cases p with
  | tup ps=>
   obtain ⟨a,vs,rfl,Y,Z,J⟩:=r;exact ⟨a,vs,rfl,SqT.of Y,by rw [<- J.length]; exact h.len ps Γ B e,h.run Γ B σ H ρ ps vs Q G J e q⟩
  | _=>cases e⟩⟩
abbrev Wt:=List (Nat × Cell)
def wOk (w:Wt) (st:Q1):Prop:=∀ x∈w,st[x.1]?=some x.2
theorem Q1v (st:Q1):wOk [] st:=fun x h=>by cases h
structure Src (J:It) (items:List PV) (w:Wt) (H:Hp) (ρ:Tk):Prop where
 stop:∀ H2 ρ2 st2,Ext H ρ H2 ρ2->Rel H2 ρ2 st2->wOk w st2->J.stop items.length H2
 go:∀ H2 ρ2 st2,Ext H ρ H2 ρ2->Rel H2 ρ2 st2->wOk w st2->∀ i,i < items.length->J.go i H2
 yld:∀ H2 ρ2 st2,Ext H ρ H2 ρ2->Rel H2 ρ2 st2->wOk w st2->∀ i p,items[i]?=some p->∀ x H3,J.yld i H2 x H3->Same H2 H3/\Rep H3 ρ2 p x
abbrev MI:=Gam->Q1->Res (List PV × Wt)
structure SimI (X:Cx) (E:XK) (tg iter:aD) (mi:MI):Prop where
 run:∀ (Γ:Gam) (σ:St) (H:Hp) (ρ:Tk) (st:Q1) (P:List PV × Wt->Q1->Hp->Tk->Prop) (R':It->Hp->Prop),Rel H ρ st->EnvR H ρ Γ σ->Acc X.mg E H ρ P (mi Γ st) ->
  (∀ iw st1 H1 ρ1 J,mi Γ st=.ok iw st1->Ext H ρ H1 ρ1->Rel H1 ρ1 st1->EnvR H1 ρ1 Γ σ->wOk iw.2 st1->iw.1.length<=sizeLine->Src J iw.1 iw.2 H1 ρ1->P iw st1 H1 ρ1->R' J H1)->WI X tg iter σ H R'
def Ut (st:Q1):PV->Option (List PV × Wt)
 | .tup xs=>some (xs,[])
 | .lst xs=>some (xs,[])
 | .fro xs=>some (xs,[])
 | .ref i=>match st[i]? with
  | some (.lst xs)=>some (xs,[(i,.lst xs)])
  | _=>none
 | _=>none
theorem Q8x {K:PySem.W.Frag} {w:Wt} (R:Rel H ρ st) (r:Rep H ρ p v) (e:Ut st p=some (xs,w)) :
  wOk w st/\∃ (t:Bool) (a:aA),v=.ref a/\(t=true->∃ ys,p=.tup ys)/\(t=false->∀ ys,p≠.tup ys)/\∀ H2 q B,Ext H ρ H2 q->Rel H2 q B->wOk w B->∃ vs,SqK K t H2 a vs/\RepL H2 q xs vs:=by
 cases p with
 | tup ys=>
  obtain ⟨a,vs,rfl,G,I,J⟩:=r;cases e;exact ⟨Q1v _,true,a,rfl,fun _=>⟨_,rfl⟩,(fun z=>by cases z),fun H2 q B x R2 _=>⟨vs,show SqT K H2 a vs from SqT.of (x.kp G I),J.ext x⟩⟩
 | lst ys=>
  obtain ⟨a,vs,rfl,G,I,J⟩:=r;cases e;exact ⟨Q1v _,false,a,rfl,(fun z=>by cases z),(fun _ _ z=>by cases z),fun H2 q B x R2 _=>⟨vs,show SqL K H2 a vs from SqL.of (x.kp G I),J.ext x⟩⟩
 | fro ys=>
  obtain ⟨a,vs,rfl,G,I,J⟩:=r;cases e;refine ⟨Q1v _,false,a,rfl,(fun z=>by cases z),(fun _ _ z=>by cases z),fun H2 q B x R2 _=>⟨vs,show SqL K H2 a vs from ?_,J.ext x⟩⟩
  rcases G with G | ⟨o,G⟩
  ·exact .inl (.inl (x.kp G I))
  ·exact .inl (.inr ⟨o,x.kp G I⟩)
 | ref i=>
  obtain ⟨a,Y,rfl⟩:=r;simp only [Ut] at e
  split at e
  ·rename_i ys hs;cases e;refine ⟨fun x hx=>?_,false,a,rfl,(fun z=>by cases z),(fun _ _ z=>by cases z),fun H2 q B x R2 ok=>?_⟩
   ·have:x=(i,.lst xs):=by simpa using hx
    subst this; exact hs
   ·have O:=ok (i,.lst xs) (by simp);obtain ⟨b,vs,U,f2,Z⟩:=R2.lst O;obtain ⟨t,et⟩:=x.pre;rw [<- et,O3 (O0.mp Y).1,Y] at U;cases U;exact ⟨vs,show SqL K H2 a vs from SqL.of f2,Z⟩
  ·cases e
 | _=>cases e
section
variable {X:Cx} {E:XK} {pos:Pos} {tg:aD} {e:aD} {m:ME}
def Q03 (m:ME):MI:=fun Γ st=>(m Γ st).bind fun p st1=>match Ut st1 p with
 | some (xs,w)=>if xs.length<=lim then .ok (xs,w) st1 else .stuck
 | none=>.stuck
theorem RepL.i {H:Hp} {ρ:Tk} {ps:List PV} {vs:List V} {i:Nat} {p:PV} {x:V} (r:RepL H ρ ps vs) (h:ps[i]?=some p) (h':vs[i]?=some x):Rep H ρ p x:=by
 obtain ⟨v,e,q⟩:=r.get h;rw [h'] at e; cases e;exact q
theorem Qdh {t:Bool} {a:aA} {w:Wt} (h:∀ H2 q B,Ext H ρ H2 q->Rel H2 q B->wOk w B->∃ vs,SqK K t H2 a vs/\RepL H2 q xs vs):Src (if t=true then Itt K a else Itl K a) xs w H ρ:=by
 cases t with
 | true=>
  rw [bN rfl];refine ⟨fun H2 q B x R ok=>?_,fun H2 q B x R ok i hi=>?_,fun H2 q B x R ok i p hp y O J=>?_⟩
  ·obtain ⟨vs,s,r⟩:=h H2 q B x R ok;exact ⟨vs,s,by rw [r.length]; exact O8 _⟩
  ·obtain ⟨vs,s,r⟩:=h H2 q B x R ok;have G:i < vs.length:=by rw [<- r.length]; exact hi
   exact ⟨vs,vs[i],s,O5 G⟩
  ·obtain ⟨vs,s,r⟩:=h H2 q B x R ok;obtain ⟨rfl,I⟩:=J;exact ⟨Same.refl _,r.i hp (I vs s)⟩
 | false=>
  rw [bO D2];refine ⟨fun H2 q B x R ok=>?_,fun H2 q B x R ok i hi=>?_,fun H2 q B x R ok i p hp y O J=>?_⟩
  ·obtain ⟨vs,s,r⟩:=h H2 q B x R ok;exact ⟨vs,s,by rw [r.length]; exact O8 _⟩
  ·obtain ⟨vs,s,r⟩:=h H2 q B x R ok;have G:i < vs.length:=by rw [<- r.length]; exact hi
   exact ⟨vs,vs[i],s,O5 G⟩
  ·obtain ⟨vs,s,r⟩:=h H2 q B x R ok;obtain ⟨rfl,I⟩:=J;exact ⟨Same.refl _,r.i hp (I vs s)⟩
theorem Qe4 {P:List PV × Wt->Q1->Hp->Tk->Prop} (R:Rel H ρ st) (h:Acc mg E H ρ P (match Ut st p with | some (xs,w)=>if xs.length<=lim then .ok (xs,w) st else .stuck | none=>.stuck)) :
  ∃ xs w,Ut st p=some (xs,w)/\xs.length<=lim/\P (xs,w) st H ρ:=by
 split at h
 ·rename_i xs w e
  split at h
  ·rename_i hl;exact ⟨xs,w,e,hl,h H ρ (Ext.refl _ _) R⟩
  ·exact h.elim
 ·exact h.elim
theorem Qs0 (ha:SimE X E e m):SimI X E tg e (Q03 m):=⟨fun Γ σ H ρ st P R' R G h k=>by
 have hb:Acc X.mg E H ρ _ (m Γ st):=Acc.bind h
 by_cases ht:∃ ys q,m Γ st=.ok (.tup ys) q
 ·obtain ⟨ys,a2,Z⟩:=ht;refine WI.of (Qsp Yi) (ha.use' R G hb fun p q H1 ρ1 v eq J B U O h1=>?_);obtain ⟨xs,w,e,hl,Y⟩:=Qe4 B h1;obtain ⟨ok,t,a,rfl,t1,t2,I⟩:=Q8x (K:=X.K) B O e;have ep:p=.tup ys:=by rw [eq] at Z; injection Z
  cases t with
  | false=>exact absurd ep (t2 rfl ys)
  | true=>
   obtain ⟨vs,s,_⟩:=I H1 ρ1 q (Ext.refl _ _) B ok;exact ⟨a,rfl,⟨vs,s⟩,k (xs,w) q H1 ρ1 _ (by simp only [Q03,eq,Res.bind,e,bN hl]) J B U ok (Xk hl) (Qdh I) Y⟩
 ·refine WI.of (Qnf Yi) (ha.use' R G hb fun p q H1 ρ1 v eq J B U O h1=>?_);obtain ⟨xs,w,e,hl,Y⟩:=Qe4 B h1;obtain ⟨ok,t,a,rfl,t1,t2,I⟩:=Q8x (K:=X.K) B O e;cases t with
  | true=>
   obtain ⟨ys,rfl⟩:=t1 rfl;exact absurd ⟨ys,q,eq⟩ ht
  | false=>
   obtain ⟨vs,s,_⟩:=I H1 ρ1 q (Ext.refl _ _) B ok;exact ⟨a,rfl,⟨vs,s⟩,k (xs,w) q H1 ρ1 _ (by simp only [Q03,eq,Res.bind,e,bN hl]) J B U ok (Xk hl) (Qdh I) Y⟩⟩
def Zh (lo:Int) (n:Nat):List PV:=(List.range n).map fun (k:Nat)=>PV.int (lo + (k:Int))
theorem Q7s {lo:Int} :Src (Itr lo n) (Zh lo n) [] H ρ:=by
 have hl:(Zh lo n).length=n:=by unfold Zh; rw [O2,G9]
 refine ⟨fun H2 B q x R ok=>?_,fun H2 B q x R ok i hi=>?_,fun H2 B q x R ok i p hp y I G=>?_⟩
 ·show n<=(Zh lo n).length;omega
 ·show i < n;omega
 ·obtain ⟨rfl,rfl⟩:=G;have hi:i < n:=by rw [<- hl]; exact (O0.mp hp).1
  unfold Zh at hp;rw [E5,List.getElem?_range hi] at hp;cases hp;exact ⟨Same.refl _,rfl⟩
def Yj (mr:Gam->Q1->Res (List PV)):MI:=fun Γ st=>(mr Γ st).bind fun ps st1=>match ps with
 | [.int j]=>if -(lim:Int)<=j/\j<=lim then .ok (Zh 0 j.toNat,[]) st1 else .stuck
 | _=>.stuck
def xb (mr:Gam->Q1->Res (List PV)):MI:=fun Γ st=>(mr Γ st).bind fun ps st1=>match ps with
 | [.int i,.int j]=>if -(lim:Int)<=i/\i<=lim/\-(lim:Int)<=j/\j<=lim then .ok (Zh i (j - i).toNat,[]) st1 else .stuck
 | _=>.stuck
variable {a b:aD} {mr:Gam->Q1->Res (List PV)} {p:Pos}
theorem Q58 (lo:Int) (n:Nat):(Zh lo n).length=n:=by unfold Zh; rw [O2,G9]
theorem Qex (O:Gl X "range") (J:X.mg "range" = none) (U:SimA X E [a] mr) (hs:aO [a] X.env=[(false,aM a X.env)]:=by rfl):SimI X E tg (.Call (.Name "range" p) [a] [] pos) (Yj mr):=⟨fun Γ σ H ρ st P R' R G h k=>by
 refine WI.of (Qfd O J Q24 hs) (U.use' R G h.bind fun ps q H1 ρ1 vs eq I B Z Y h1=>?_)
 split at h1
 ·rename_i j
  split at h1
  ·rename_i hj;obtain ⟨v,rfl,rv⟩:=Wr Y;cases rv;have hl:(lim:Int)=1000000:=rfl;refine ⟨j,rfl,by omega,by omega,k (Zh 0 j.toNat,[]) q H1 ρ1 _ (by simp only [Yj,eq,Res.bind,bN hj]) I B Z (Q1v _) ?_ Q7s (h1 H1 ρ1 (Ext.refl _ _) B)⟩;show (Zh 0 j.toNat).length<=sizeLine;rw [Q58];exact Xk (by omega)
  ·exact h1.elim
 ·exact h1.elim⟩
theorem Qew (Y:Gl X "range") (U:X.mg "range" = none) (Z:SimA X E [a,b] mr) (hs:aO [a,b] X.env=[(false,aM a X.env),(false,aM b X.env)]:=by rfl) (B:aO [b] X.env=[(false,aM b X.env)]:=by rfl):SimI X E tg (.Call (.Name "range" p) [a,b] [] pos) (xb mr):=⟨fun Γ σ H ρ st P R' R G h k=>by
 refine WI.of (Qfc Y U Q24 hs B) (Z.use' R G h.bind fun ps q H1 ρ1 vs eq J I G1 r1 h1=>?_)
 split at h1
 ·rename_i i j
  split at h1
  ·rename_i hj;obtain ⟨v,u,rfl,rv,O⟩:=Q21 r1;cases rv; cases O;have hl:(lim:Int)=1000000:=rfl;refine ⟨i,j,rfl,⟨by omega,by omega,by omega,by omega⟩,k (Zh i (j - i).toNat,[]) q H1 ρ1 _ (by simp only [xb,eq,Res.bind,bN hj]) J I G1 (Q1v _) ?_ Q7s (h1 H1 ρ1 (Ext.refl _ _) I)⟩;show (Zh i (j - i).toNat).length<=sizeLine;rw [Q58];exact F0 (show (j - i).toNat<=2000000 by omega) (by decide)
  ·exact h1.elim
 ·exact h1.elim⟩
def Q4r:List PV->List PV->List PV
 | x :: xs,y :: ys=>.tup [x,y] :: Q4r xs ys
 | _,_=>[]
theorem Q8r (xs ys:List PV):Q4r xs ys=(xs.zip ys).map fun z=>.tup [z.1,z.2]:=by
 induction xs generalizing ys with
 | nil=>rfl
 | cons x xs q=>
  cases ys with
  | nil=>rfl
  | cons y ys=>rw [Q4r,q]; rfl
theorem Q4q (xs ys:List PV):(Q4r xs ys).length=min xs.length ys.length:=by rw [Q8r,O2,List.length_zip]
theorem Qh1 {ys:List PV} {i:Nat} {p:PV} (h:(Q4r xs ys)[i]?=some p):∃ x y,p=.tup [x,y]/\xs[i]?=some x/\ys[i]?=some y:=by
 rw [Q8r,E5] at h;cases e:(xs.zip ys)[i]? with
 | none=>rw [e] at h; cases h
 | some z=>
  rw [e] at h; cases h;rw [List.getElem?_zip_eq_some] at e;exact ⟨z.1,z.2,rfl,e.1,e.2⟩
def Q7i (mr:Gam->Q1->Res (List PV)):MI:=fun Γ st=>(mr Γ st).bind fun ps st1=>match ps with
 | [p,q]=>match Ut st1 p,Ut st1 q with
  | some (xs,w),some (ys,w')=>if xs.length<=lim then .ok (Q4r xs ys,w ++ w') st1 else .stuck
  | _,_=>.stuck
 | _=>.stuck
theorem Q0s {w B:Wt} (h:wOk (w ++ B) st):wOk w st/\wOk B st:=⟨fun x q=>h x (F7 _ q),fun x q=>h x (E4 _ q)⟩
theorem Qme {t1 t2:Bool} {a b:aA} {ys:List PV} {w U:Wt} (h:∀ H2 B G,Ext H ρ H2 B->Rel H2 B G->wOk w G->∃ vs,SqK K t1 H2 a vs/\RepL H2 B xs vs)
  (h':∀ H2 B G,Ext H ρ H2 B->Rel H2 B G->wOk U G->∃ vs,SqK K t2 H2 b vs/\RepL H2 B ys vs):Src (Itz K t1 t2 a b) (Q4r xs ys) (w ++ U) H ρ:=by
 refine ⟨fun H2 B G x R ok=>?_,fun H2 B G x R ok i hi=>?_,fun H2 B G x R ok i p hp y H3 hy=>?_⟩
 ·obtain ⟨vs,s,r⟩:=h H2 B G x R (Q0s ok).1;obtain ⟨us,s',I⟩:=h' H2 B G x R (Q0s ok).2;refine ⟨vs,us,s,s',?_⟩;rw [Q4q,<- r.length,<- I.length];omega
 ·obtain ⟨vs,s,r⟩:=h H2 B G x R (Q0s ok).1;obtain ⟨us,s',I⟩:=h' H2 B G x R (Q0s ok).2;rw [Q4q,r.length,I.length] at hi;have h1:i < vs.length:=by omega
  have h2:i < us.length:=by omega
  exact ⟨vs,us,vs[i],us[i],s,s',O5 h1,O5 h2⟩
 ·obtain ⟨vs,s,r⟩:=h H2 B G x R (Q0s ok).1;obtain ⟨us,s',I⟩:=h' H2 B G x R (Q0s ok).2;obtain ⟨q,u,v,O,rfl,rfl,Y⟩:=hy;obtain ⟨e1,e2⟩:=Y vs us s s';obtain ⟨xp,yp,rfl,Z,p2⟩:=Qh1 hp;have J:Same H2 (upd H2 q (.tup [u,v])):=Qhx O;exact ⟨J,q,[u,v],rfl,Qj,R.fresh O,RepL.cons ((r.i Z e1).ext (Ext.same J)) (RepL.cons ((I.i p2 e2).ext (Ext.same J)) RepL.nil)⟩
theorem Qrz {J:List aD} {kt:Nat} {tp:Pos} (hg:Gl X "zip") (hm:X.mg "zip" = none) (ha:SimA X E [a,b] mr) (hs:aO [a,b] X.env=[(false,aM a X.env),(false,aM b X.env)]:=by rfl) (a7:aO [b] X.env=[(false,aM b X.env)]:=by rfl) :
  SimI X E (.Tuple J kt tp) (.Call (.Name "zip" p) [a,b] [] pos) (Q7i mr):=⟨fun Γ σ H ρ st P R' R G h k=>by
 have hb:Acc X.mg E H ρ _ (mr Γ st):=Acc.bind h;have I:∀ t1 t2:Bool,(∀ p q B,mr Γ st=.ok [p,q] B->(t1=true <-> ∃ ys,p=.tup ys)/\(t2=true <-> ∃ ys,q=.tup ys))->WI X (.Tuple J kt tp) (.Call (.Name "zip" p) [a,b] [] pos) σ H R':=fun t1 t2 ht=>by
  refine WI.of (Qsm t1 t2 hg hm Q24 hs a7) (ha.use' R G hb fun ps B H1 ρ1 vs eq x1 O G1 r1 h1=>?_)
  split at h1
  ·rename_i p' q'
   split at h1
   ·rename_i xs w ys w' e1 e2
    split at h1
    ·rename_i hl;obtain ⟨v,u,rfl,rv,ru⟩:=Q21 r1;obtain ⟨Y,b1,a1,rfl,z1,a8,a3⟩:=Q8x (K:=X.K) O rv e1;obtain ⟨Z,b2,a2,rfl,z2,a9,U⟩:=Q8x (K:=X.K) O ru e2;obtain ⟨g1,g2⟩:=ht _ _ _ eq;have b0:b1=t1:=by
      cases b1 with
      | true=>exact (g1.mpr (z1 rfl)).symm
      | false=>
       cases t1 with
       | false=>rfl
       | true=>obtain ⟨ys,e⟩:=g1.mp rfl; exact absurd e (a8 rfl ys)
     have a5:b2=t2:=by
      cases b2 with
      | true=>exact (g2.mpr (z2 rfl)).symm
      | false=>
       cases t2 with
       | false=>rfl
       | true=>obtain ⟨ys,e⟩:=g2.mp rfl; exact absurd e (a9 rfl ys)
     subst b0; subst a5;obtain ⟨a4,s1,_⟩:=a3 H1 ρ1 B (Ext.refl _ _) O Y;obtain ⟨a6,s2,_⟩:=U H1 ρ1 B (Ext.refl _ _) O Z;refine ⟨a1,a2,a4,a6,rfl,s1,s2,k (Q4r xs ys,w ++ w') B H1 ρ1 _ (by simp only [Q7i,eq,Res.bind,e1,e2,bN hl]) x1 O G1 (fun x hx=>?_) ?_ (Qme a3 U) (h1 H1 ρ1 (Ext.refl _ _) O)⟩
     ·rcases F1.mp hx with hx | hx
      ·exact Y x hx
      ·exact Z x hx
     ·show (Q4r xs ys).length<=sizeLine;rw [Q4q];exact Xk (F0 (Nat.min_le_left _ _) hl)
    ·exact h1.elim
   ·exact h1.elim
  ·exact h1.elim
 have tt:∀ p:PV,∃ t:Bool,t=true <-> ∃ ys,p=.tup ys:=fun p=>by
  cases p with
  | tup ys=>exact ⟨true,fun _=>⟨ys,rfl⟩,fun _=>rfl⟩
  | _=>exact ⟨false,⟨fun z=>(by cases z),fun ⟨_,z⟩=>(by cases z)⟩⟩
 by_cases hz:∃ p q B,mr Γ st=.ok [p,q] B
 ·obtain ⟨p0,q0,b3,e0⟩:=hz;obtain ⟨t1,g1⟩:=tt p0;obtain ⟨t2,g2⟩:=tt q0;refine I t1 t2 fun p q B e=>?_
  rw [e0] at e; cases e;exact ⟨g1,g2⟩
 ·exact I true true fun p q B e=>absurd ⟨p,q,B,e⟩ hz⟩
end
section
abbrev ML:=Gam->Q1->Res (List PV)
structure SimN (X:Cx) (E:XK) (e:aD) (m:ML):Prop where
 run:∀ (Γ:Gam) (σ:St) (H:Hp) (ρ:Tk) (st:Q1) (P:List PV->Q1->Hp->Tk->Prop) (Q:VK),Rel H ρ st->EnvR H ρ Γ σ->Acc X.mg E H ρ P (m Γ st) ->
  (∀ ps st1 H1 ρ1 a vs,m Γ st=.ok ps st1->Ext H ρ H1 ρ1->Rel H1 ρ1 st1->a∈ρ1.hid->H a=none->H1 a=some (.lst vs)->RepL H1 ρ1 ps vs->Q (.ref a) H1)->WE X e σ H Q
def Xh (m:ML):ME:=fun Γ st=>(m Γ st).bind fun ps st1=>.ok (.lst ps) st1
def Q02 (m:ML):ME:=fun Γ st=>(m Γ st).bind fun ps st1=>.ok (.ref st1.length) (st1 ++ [.lst ps])
section
variable {H0 H:Hp} {ρ0 ρ:Tk} {st:Q1} {a:aA} {ps:List PV} {vs:List V}
theorem Qdv (G:Rel H0 ρ0 st) (x:Ext H0 ρ0 H ρ) {q:Q1} (R:Rel H ρ q) (I:a∈ρ.hid) (B:H0 a=none) (J:H a=some (.lst vs)) (r:RepL H ρ ps vs) :
  Ext H0 ρ0 H ⟨ρ.tr,ρ0.hid⟩/\Rel H ⟨ρ.tr,ρ0.hid⟩ q/\Rep H ⟨ρ.tr,ρ0.hid⟩ (.lst ps) (.ref a):=
 ⟨x.unhide,R.unhide x.hidM,a,vs,rfl,J,(fun z=>by
  rcases z with z | z
  ·exact R.ap a I z
  ·obtain ⟨o,e,_⟩:=G.hd a z;rw [B] at e; cases e),r.unhide x.hidM⟩
mutual
theorem Rep.trk {hs:List aA} (B:b∈ρ.hid) (q:∀ c,c∈hs->c∈ρ.hid):∀ {p:PV} {v:V},Rep H ρ p v->Rep H ⟨ρ.tr ++ [b],hs⟩ p v
 | .non,_,r=>r
 | .bl _,_,r=>r
 | .int _,_,r=>r
 | .str _,_,r=>r
 | .tup ps,v,⟨c,vs,e,s,n,r⟩=>⟨c,vs,e,s,fun z=>by
   rcases z with z | z
   ·rcases F1.mp z with z | z
    ·exact n (.inl z)
    ·have:c=b:=by simpa using z
     subst this; exact n (.inr B)
   ·exact n (.inr (q _ z)),RepL.trk B q r⟩
 | .lst ps,v,⟨c,vs,e,s,n,r⟩=>⟨c,vs,e,s,fun z=>by
   rcases z with z | z
   ·rcases F1.mp z with z | z
    ·exact n (.inl z)
    ·have:c=b:=by simpa using z
     subst this; exact n (.inr B)
   ·exact n (.inr (q _ z)),RepL.trk B q r⟩
 | .fro ps,v,⟨c,vs,e,s,n,r⟩=>⟨c,vs,e,s,fun z=>by
   rcases z with z | z
   ·rcases F1.mp z with z | z
    ·exact n (.inl z)
    ·have:c=b:=by simpa using z
     subst this; exact n (.inr B)
   ·exact n (.inr (q _ z)),RepL.trk B q r⟩
 | .ref i,v,⟨c,e,e2⟩=>⟨c,by show (ρ.tr ++ [b])[i]?=some c; rw [O3 (O0.mp e).1]; exact e,e2⟩
 | .dic,v,⟨c,e,s,n⟩=>⟨c,e,s,fun z=>by
   rcases z with z | z
   ·rcases F1.mp z with z | z
    ·exact n (.inl z)
    ·have:c=b:=by simpa using z
     subst this; exact n (.inr B)
   ·exact n (.inr (q _ z))⟩
theorem RepL.trk {hs:List aA} (B:b∈ρ.hid) (q:∀ c,c∈hs->c∈ρ.hid):∀ {ps:List PV} {vs:List V},RepL H ρ ps vs->RepL H ⟨ρ.tr ++ [b],hs⟩ ps vs
 | [],_,r=>r
 | p :: ps,_,⟨v,t,e,I,G⟩=>⟨v,t,e,Rep.trk B q I,RepL.trk B q G⟩
end
theorem Qnr (R0:Rel H0 ρ0 st) (x:Ext H0 ρ0 H ρ) {B:Q1} (R:Rel H ρ B) (I:a∈ρ.hid) (Y:H0 a=none) (ha:H a=some (.lst vs)) (r:RepL H ρ ps vs) :
  Ext H0 ρ0 H ⟨ρ.tr ++ [a],ρ0.hid⟩/\Rel H ⟨ρ.tr ++ [a],ρ0.hid⟩ (B ++ [.lst ps])/\Rep H ⟨ρ.tr ++ [a],ρ0.hid⟩ (.ref B.length) (.ref a):=by
 have O:a∉ρ0.hid:=fun z=>by
  obtain ⟨o,e,_⟩:=R0.hd a z;rw [Y] at e; cases e
 refine ⟨⟨x.pre.trans (List.prefix_append _ _),fun _ h=>h,fun _ h=>.inl h,x.keep,fun b G=>?_,x.old,x.frz⟩,⟨?_,?_,fun b G=>R.hd b (x.hidM b G),fun b G z=>?_,fun i b c h1 h2=>?_⟩,a,?_,rfl⟩
 ·rcases F1.mp G with z | z
  ·exact x.new b z
  ·have:b=a:=by simpa using z
   subst this; exact .inr Y
 ·show (ρ.tr ++ [a]).length=_;rw [O6,O6,R.len]; rfl
 ·show (ρ.tr ++ [a]).Nodup;refine List.nodup_append.mpr ⟨R.nd,by simp,fun b G c Z e=>?_⟩;have:c=a:=by simpa using Z
  subst this; subst e;exact R.ap b I G
 ·rcases F1.mp z with z | z
  ·exact R.ap b (x.hidM b G) z
  ·have:b=a:=by simpa using z
   subst this; exact O G
 ·have h1:(ρ.tr ++ [a])[i]?=some b:=h1
  by_cases hi:i < B.length
  ·rw [O3 (by rw [R.len]; exact hi)] at h1;rw [O3 hi] at h2;have q:=R.cell i b c h1 h2;cases c with
   | lst J=>
    obtain ⟨us,e1,e2⟩:=q;exact ⟨us,e1,e2.trk I x.hidM⟩
   | dic J=>
    obtain ⟨us,e1,e2⟩:=q;exact ⟨us,e1,e2.1,e2.2.trk I x.hidM⟩
   | dtp J=>
    obtain ⟨us,e1,e2⟩:=q;exact ⟨us,e1,e2.1,e2.2.trk I x.hidM⟩
   | frd J=>
    obtain ⟨us,e1,e2⟩:=q;exact ⟨us,e1,e2.1,e2.2.trk I x.hidM⟩
   | obj C J=>
    obtain ⟨us,e1,e2⟩:=q;exact ⟨us,e1,e2.1,e2.2.trk I x.hidM⟩
  ·rw [D0 (by rw [R.len]; omega)] at h1;rw [D0 (by omega)] at h2;have U:i - B.length=0:=by
    rcases Nat.eq_zero_or_pos (i - B.length) with z | z
    ·exact z
    ·rw [List.getElem?_eq_none (by simp; omega)] at h2; cases h2
   rw [R.len,U] at h1;rw [U] at h2;simp at h1 h2;subst h1; subst h2;exact ⟨vs,ha,r.trk I x.hidM⟩
 ·show (ρ.tr ++ [a])[B.length]?=some a;rw [<- R.len,D0 (O8 _),Nat.sub_self]; rfl
end
section
variable {X:Cx} {E:XK} {pos:Pos} {e:aD} {m:ML}
theorem Qs2 (h:SimN X E e m):SimE X E e (Xh m):=⟨fun Γ σ H ρ st Q R G q=>h.run Γ σ H ρ st _ Q R G q.bind fun ps I H1 ρ1 a vs eq x U O J Y r=>by
 obtain ⟨Z,R2,B⟩:=Qdv R x U O J Y r;unfold Xh at q;rw [eq] at q;exact q _ _ Z R2 _ B⟩
theorem Qs4 (h:SimN X E e m):SimE X E e (Q02 m):=⟨fun Γ σ H ρ st Q R G q=>h.run Γ σ H ρ st _ Q R G q.bind fun ps I H1 ρ1 a vs eq x U O J Y r=>by
 obtain ⟨Z,R2,B⟩:=Qnr R x U O J Y r;unfold Q02 at q;rw [eq] at q;exact q _ _ Z R2 _ B⟩
variable {es:List aD} {mr:Gam->Q1->Res (List PV)} {a b:aD} {ma mb:ME}
theorem Qtf {ρ1:Tk} {q:Q1} {Q:VK} (x:Ext H ρ H1 ρ1) (G:Rel H1 ρ1 q) (r:RepL H1 ρ1 ps vs)
  (k:∀ H1 ρ1 a vs,Ext H ρ H1 ρ1->Rel H1 ρ1 q->a∈ρ1.hid->H a=none->H1 a=some (.lst vs)->RepL H1 ρ1 ps vs->Q (.ref a) H1):∀ p,H1 p=none->Q (.ref p) (upd H1 p (.lst vs)):=fun p hp=>by
 refine k _ (ρ1.hide p) p vs (x.trans (Ext.hide hp)) (G.hide hp) D5 ?_ Qj (r.hide hp);cases e:H p with
 | none=>rfl
 | some o=>
  obtain ⟨o',B⟩:=x.old p o e;rw [hp] at B; cases B
def jd (mr:Gam->Q1->Res (List PV)):ML:=fun Γ st=>(mr Γ st).bind fun ps st1=>if ps.length<=lim then .ok ps st1 else .stuck
theorem Qry (h:SimA X E es mr):SimN X E (.List es pos) (jd mr):=
 ⟨fun Γ σ H ρ st P Q R G U k=>WE.of (Qcg Q24) (h.use' R G U.bind fun ps q H1 ρ1 vs eq J O Y I h1=>by
  by_cases hl:ps.length<=lim
  ·refine ⟨by rw [<- I.length]; exact Xk hl,Qtf J O I fun H2 B a us=>k ps q H2 B a us ?_⟩;unfold jd;rw [eq];exact bN hl
  ·rw [bO hl] at h1; exact h1.elim)⟩
end
end
def Zc (cap:List (Option Nat)) (Γ:Gam):Gam:=cap.map fun c=>c.bind fun j=>(Γ[j]?).join
theorem EnvR.cap {H:Hp} {ρ:Tk} {Γ:Gam} {σ:St} (h:EnvR H ρ Γ σ) (cap:List (Option Nat)):EnvR H ρ (Zc cap Γ) (Q2i cap σ):=by
 refine ⟨by unfold Zc Q2i; rw [O2,O2],fun i p e=>?_⟩;unfold Zc at e;unfold Q2i;rw [E5] at e ⊢;cases q:cap[i]? with
 | none=>rw [q] at e; cases e
 | some c=>
  rw [q] at e;cases c with
  | none=>cases e
  | some j=>
   have B:(Γ[j]?).join=some p:=Option.some.inj e;cases r:Γ[j]? with
   | none=>rw [r] at B; cases B
   | some o=>
    rw [r] at B;have:o=some p:=B;subst this;obtain ⟨v,e1,e2⟩:=h.2 j p r;exact ⟨v,by show some ((σ[j]?).join)=some (some v); rw [e1]; rfl,e2⟩
def Q3p (cap:List (Option Nat)) (ga:GA):Prop:=∀ Γ p Γ1,ga p (Zc cap Γ)=some Γ1->Γ1.length=(Zc cap Γ).length/\∀ (i:Nat) (q:PV),(Zc cap Γ)[i]?=some (some q)->Γ1[i]?=some (some q)
theorem Q8h {cap:List (Option Nat)} {i:Nat} (h:cap[i]?=some none) (Γ:Gam):(Zc cap Γ)[i]?=some none:=by
 unfold Zc;rw [E5,h]; rfl
theorem Qga {cap:List (Option Nat)} {i:Nat} (h:cap[i]?=some none:=by rfl):Q3p cap (Qg i):=fun Γ p Γ1 e=>by
 cases e;refine ⟨D9 ..,fun j q B=>?_⟩;rw [O7 fun z=>?_]
 ·exact B
 ·subst z; rw [Q8h h] at B; cases B
def Qeq (cap:List (Option Nat)) (ga:GAs):Prop:=∀ Γ ps Γ0 Γ1,(∀ (i:Nat) (q:PV),(Zc cap Γ)[i]?=some (some q)->Γ0[i]?=some (some q))->ga ps Γ0=some Γ1->Γ1.length=Γ0.length/\∀ (i:Nat) (q:PV),(Zc cap Γ)[i]?=some (some q)->Γ1[i]?=some (some q)
theorem Qjq {cap:List (Option Nat)}:Qeq cap Ki:=fun Γ ps Γ0 Γ1 h e=>by
 cases ps with
 | nil=>cases e; exact ⟨rfl,h⟩
 | cons _ _=>cases e
theorem Qgb {cap:List (Option Nat)} {i:Nat} (hs:Qeq cap gs) (h:cap[i]?=some none:=by rfl):Qeq cap (Y5 (Qg i) gs):=fun Γ ps Γ0 Γ1 h0 e=>by
 cases ps with
 | nil=>cases e
 | cons p ps=>
  obtain ⟨a,b⟩:=hs Γ ps (Γ0.set i (some p)) Γ1 (fun k r q=>by
   rw [O7 fun z=>?_]
   ·exact h0 k r q
   ·subst z; rw [Q8h h] at q; cases q) e
  exact ⟨by rw [a,D9],b⟩
theorem Qjp {cap:List (Option Nat)} (hs:Qeq cap gs):Q3p cap (Kh gs):=fun Γ p Γ1 e=>by
 cases p with
 | tup ps=>exact hs Γ ps _ Γ1 (fun _ _ h=>h) e
 | _=>cases e
open Classical in
def Jf (ga:GA) (mt:MT) (me:ME) (w:Wt) (Γ0:Gam):List PV->Q1->Res (List PV)
 | [],st=>if wOk w st then .ok [] st else .stuck
 | x :: xs,st=>if wOk w st then (match ga x Γ0 with
  | none=>.stuck
  | some Γ1=>(mt Γ1 st).bind fun b st1=>if b=true then (me Γ1 st1).bind fun y st2=>(Jf ga mt me w Γ0 xs st2).bind fun ys st3=>.ok (y :: ys) st3 else Jf ga mt me w Γ0 xs st1) else .stuck
def noX {α:Type}:Res α->Res α
 | .exc _ _=>.stuck
 | r=>r
def Y3 (cap:List (Option Nat)) (ga:GA) (mi:MI) (mt:MT) (me:ME):ML:=fun Γ st=>(mi Γ st).bind fun iw st1=>noX (Jf ga mt me iw.2 (Zc cap Γ) iw.1 st1)
structure SimTs (X:Cx) (ifs:List aD) (m:MT):Prop where
 run:∀ (Γ:Gam) (σ:St) (H:Hp) (ρ:Tk) (st:Q1) (P:Bool->Q1->Hp->Tk->Prop) (Q:Bool->Hp->Prop),Rel H ρ st->EnvR H ρ Γ σ->Acc X.mg E0 H ρ P (m Γ st) ->
  (∀ b st1 H1 ρ1,m Γ st=.ok b st1->Ext H ρ H1 ρ1->Rel H1 ρ1 st1->EnvR H1 ρ1 Γ σ->Q b H1)->∃ t,PTs X ifs t/\t σ H Q
def Zg:MT:=fun _ st=>.ok true st
theorem Qmd :SimTs X [] Zg:=⟨fun Γ σ H ρ st P Q R G h k=>⟨_,Qna,k true st H ρ rfl (Ext.refl _ _) R G⟩⟩
theorem Qmc {m:MT} (I:SimT X E0 c m):SimTs X [c] m:=⟨fun Γ σ H ρ st P Q R G h k=>⟨_,Qn9 Qaf,I.use' R G h fun b q H1 ρ1 e B J O p=>k b q H1 ρ1 e B J O⟩⟩
theorem Qqa {E':XK} {P:α->Q1->Hp->Tk->Prop} {r:Res α} (h:Acc mg E H ρ P (noX r)):Acc mg E' H ρ P r:=by
 cases r with
 | ok a st=>exact h
 | exc x st=>exact h.elim
 | stuck=>exact h
theorem Res.assoc {q:Type} (r:Res α) (f:α->Q1->Res β) (g:β->Q1->Res q):(r.bind f).bind g=r.bind fun a st=>(f a st).bind g:=by cases r <;> rfl
theorem Acc.assoc {q:Type} {P:q->Q1->Hp->Tk->Prop} {r:Res α} {f:α->Q1->Res β} {g:β->Q1->Res q} (h:Acc mg E H ρ P ((r.bind f).bind g)):Acc mg E H ρ P (r.bind fun a st=>(f a st).bind g):=by
 rw [<- Res.assoc]; exact h
theorem EnvR.le {B:Gam} (h:EnvR H ρ B σ) (hl:Γ.length=σ.length) (k:∀ (i:Nat) (q:PV),Γ[i]?=some (some q)->B[i]?=some (some q)):EnvR H ρ Γ σ:=⟨hl,fun i p e=>h.2 i p (k i p e)⟩
variable {tg iter elt:aD} {ifs:List aD} {N N':List Str} {sc scE:Scope} {ga:GA} {mi:MI} {mt:MT} {me:ME}
section
variable {cap:List (Option Nat)}
def aE (X:Cx) (N':List Str) (sc:Scope) (e:aD):TE:=fun σ H Q=>∀ cl C s0 H0 ex,WE (V7 X N' sc cl C s0 H0 ex) e σ H Q
def aG (X:Cx) (N':List Str) (sc:Scope) (tg:aD):TG:=fun v σ H Q=>∀ cl C s0 H0 ex,WGx (V7 X N' sc cl C s0 H0 ex) tg v σ H Q
def aT (X:Cx) (N':List Str) (sc:Scope) (ifs:List aD):TT:=fun σ H Q=>∀ cl C s0 H0 ex,∃ t,PTs (V7 X N' sc cl C s0 H0 ex) ifs t/\t σ H Q
theorem Qge {Γ:Gam} {σ:St} {H1:Hp} {ρ1:Tk} {U:Q1} {J:It} {q:List PV} {w:Wt} {Q:VK} {P:List PV->Q1->Hp->Tk->Prop} (hg:∀ cl C s0 H0 ex,SimG (V7 X N' sc cl C s0 H0 ex) tg ga) (he:∀ cl C s0 H0 ex,SimE (V7 X N' sc cl C s0 H0 ex) E0 elt me) (ht:∀ cl C s0 H0 ex,SimTs (V7 X N' sc cl C s0 H0 ex) ifs mt)
  (hf:Q3p cap ga) (R1:Rel H1 ρ1 U) (G1:EnvR H1 ρ1 Γ σ) (src:Src J q w H1 ρ1) (c4:q.length<=sizeLine) (h:Acc X.mg E0 H1 ρ1 P (Jf ga mt me w (Zc cap Γ) q U))
  (k:∀ ys b6 H2 a6 B vs,Jf ga mt me w (Zc cap Γ) q U=.ok ys b6->Ext H1 ρ1 H2 a6->Rel H2 a6 b6->B∈a6.hid->H1 B=none->H2 B=some (.lst vs)->RepL H2 a6 ys vs->Q (.ref B) H2):Q8f J cap (aG X N' sc tg) (aT X N' sc ifs) (aE X N' sc elt) σ H1 Q:=by
 intro B G;let W:Nat->Nat->List V->St->Hp->Prop:=fun i m vs b0 H'=>m=q.length - i/\i<=q.length/\vs.length<=i/\∃ ρ' st' ys,Ext H1 ρ1 H' ρ'/\B∈ρ'.hid/\Rel H' ρ' st'/\EnvR H' ρ' (Zc cap Γ) b0/\H' B=some (.lst vs)/\RepL H' ρ' ys vs /\
  Jf ga mt me w (Zc cap Γ) q U=(Jf ga mt me w (Zc cap Γ) (q.drop i) st').bind fun zs Z=>.ok (ys ++ zs) Z
 refine ⟨W,⟨_,rfl,Nat.zero_le _,O8 _,ρ1.hide B,U,[],Ext.hide G,D5,R1.hide G,(G1.cap cap).hide G,Qj,rfl,?_⟩,?_⟩
 ·rw [List.drop_zero];cases r:Jf ga mt me w (Zc cap Γ) q U with
  | ok zs Z=>rfl
  | exc x Z=>rfl
  | stuck=>rfl
 rintro i m vs b0 H' ⟨hm,hi,c5,ρ',st',ys,x,Y,R',G',ha,ry,O⟩;have I:Acc X.mg E0 H1 ρ1 P ((Jf ga mt me w (Zc cap Γ) (q.drop i) st').bind fun zs Z=>.ok (ys ++ zs) Z):=by rw [<- O]; exact h
 refine ⟨ha,?_⟩
 by_cases a2:i < q.length
 ·right
  have hd:q.drop i=q[i] :: q.drop (i + 1):=List.drop_eq_getElem_cons a2;rw [hd,Jf] at I O
  by_cases hw:wOk w st'
  ·rw [bN hw] at I O;refine ⟨src.go H' _ st' x R' hw i a2,by omega,fun y H2 hy=>?_⟩;obtain ⟨sm,c1⟩:=src.yld H' _ st' x R' hw i _ (O5 a2) y H2 hy;cases eg:ga q[i] (Zc cap Γ) with
   | none=>rw [eg] at I; exact I.elim
   | some Γ1=>
    rw [eg] at I O;have x2:Ext H' ρ' H2 ρ':=Ext.same sm;have R2:=R'.same sm;intro cl C s0 H0 ex;refine (hg cl C s0 H0 ex).run (Zc cap Γ) Γ1 b0 H2 ρ' _ y _ (G'.ext x2) c1 eg fun b3 G3=>?_
    intro cl C s0 H0 ex;have c0:=Acc.later I (x.trans x2);refine (ht cl C s0 H0 ex).run Γ1 b3 H2 ρ' st' _ _ R2 G3 (Acc.bind (Acc.assoc c0)) fun b c3 H4 a5 e4 x4 R4 G4=>?_
    simp only [e4,Res.bind] at I O;have G0:∀ {a8:Hp} {a3:Tk},EnvR a8 a3 Γ1 b3->EnvR a8 a3 (Zc cap Γ) b3:=fun {a8 a3} g=>g.le (by
     rw [<- G3.1];exact (hf Γ _ Γ1 eg).1.symm) (hf Γ _ Γ1 eg).2
    have a7:Ext H1 ρ1 H4 a5:=x.trans (x2.trans x4);have b1:B∈a5.hid:=x4.hidM B Y;have na:B∉ρ'.tr:=R'.ap B Y;have b5:H4 B=some (.lst vs):=x4.keep B _ (sm B _ ha) na;have b7:RepL H4 a5 ys vs:=ry.ext (x2.trans x4);cases b with
    | false=>
     rw [bO D2] at I O ⊢;exact ⟨_,show q.length - (i + 1) < m by omega,rfl,a2,by omega,a5,c3,ys,a7,b1,R4,G0 G4,b5,b7,O⟩
    | true=>
     rw [bN rfl] at I O ⊢;intro cl C s0 H0 ex;have b8:=Acc.later I a7;refine (he cl C s0 H0 ex).use' R4 G4 (Acc.bind (Acc.assoc b8)) fun z b4 H5 b2 zv e5 x5 R5 G5 r5 h5=>?_
     simp only [e5,Res.bind] at I O;have a4:B∈b2.hid:=x5.hidM B b1;have b9:H5 B=some (.lst vs):=x5.keep B _ b5 (R4.ap B b1);have c2:Ext H1 ρ1 H5 b2:=a7.trans x5;refine ⟨b9,_,show q.length - (i + 1) < m by omega,rfl,a2,by rw [O6]; simp; omega,b2,b4,ys ++ [z],c2.put0 G,a4,R5.rehide a4,(G0 G5).rehide a4,Qj,((b7.ext x5).append (RepL.cons r5 RepL.nil)).rehide a4,?_⟩;refine O.trans ?_;cases rr:Jf ga mt me w (Zc cap Γ) (q.drop (i + 1)) b4 with
     | ok zs a9=>
      show Res.ok (ys ++ z :: zs) a9=Res.ok ((ys ++ [z]) ++ zs) a9;rw [F8]; rfl
     | exc x6 a9=>rfl
     | stuck=>rfl
  ·rw [bO hw] at I; exact I.elim
 ·left
  have ei:i=q.length:=by omega
  subst ei;rw [List.drop_length,Jf] at I O
  by_cases hw:wOk w st'
  ·rw [bN hw] at I O;refine ⟨src.stop H' _ st' x R' hw,?_⟩;have O:Jf ga mt me w (Zc cap Γ) q U=.ok (ys ++ []) st':=O;rw [G6] at O;exact k ys st' H' ρ' B vs O x R' Y G ha ry
  ·rw [bO hw] at I; exact I.elim
theorem Qbi {Γ:Gam} {σ:St} {H:Hp} {ρ:Tk} {st:Q1} {Q:VK} {P:List PV->Q1->Hp->Tk->Prop} (hi:SimI X E tg iter mi) (hg:∀ cl C s0 H0 ex,SimG (V7 X N' sc cl C s0 H0 ex) tg ga) (he:∀ cl C s0 H0 ex,SimE (V7 X N' sc cl C s0 H0 ex) E0 elt me) (ht:∀ cl C s0 H0 ex,SimTs (V7 X N' sc cl C s0 H0 ex) ifs mt)
  (hf:Q3p cap ga) (R:Rel H ρ st) (G:EnvR H ρ Γ σ) (h:Acc X.mg E H ρ P (Y3 cap ga mi mt me Γ st)) (k:∀ ps B H2 q a vs,Y3 cap ga mi mt me Γ st=.ok ps B->Ext H ρ H2 q->Rel H2 q B->a∈q.hid->H a=none->H2 a=some (.lst vs)->RepL H2 q ps vs->Q (.ref a) H2):Q8u cap (WI X tg iter) (aG X N' sc tg) (aT X N' sc ifs) (aE X N' sc elt) σ H Q:=by
 refine hi.run Γ σ H ρ st _ _ R G h.bind fun iw a2 H1 ρ1 J eq U R1 G1 ok hl src h1=>?_
 refine Qge hg he ht hf R1 G1 src hl (Qqa (E':=E0) h1) fun ys B H2 q I vs O x2 R2 hm hn ha Z=>?_
 refine k ys B H2 q I vs ?_ (U.trans x2) R2 hm ?_ ha Z
 ·unfold Y3;rw [eq];show noX _=_;rw [O]; rfl
 cases e:H I with
 | none=>rfl
 | some o=>
  obtain ⟨o',Y⟩:=U.old I o e;rw [hn] at Y; cases Y
theorem Qw2 :∀ cl C s0 H0 ex,PG (V7 X N' sc cl C s0 H0 ex) tg (aG X N' sc tg):=fun cl C s0 H0 ex pins s σ H v u Q I r h=>Qnh pins s σ H v u Q I r (h cl C s0 H0 ex)
theorem Qw5 :∀ cl C s0 H0 ex,PE (V7 X N' sc cl C s0 H0 ex) e (aE X N' sc e):=fun cl C s0 H0 ex pins s σ H Q I h=>h cl C s0 H0 ex pins s I
theorem Qqn :∀ cl C s0 H0 ex,PTs (V7 X N' sc cl C s0 H0 ex) ifs (aT X N' sc ifs):=fun cl C s0 H0 ex pins s σ H Q I h=>by
 obtain ⟨t,a,b⟩:=h cl C s0 H0 ex;exact a pins s σ H Q I b
theorem Qmi (cap:List (Option Nat)) (N':List Str) (q:X.calm=true) (hi:SimI X E tg iter mi) (Y:∀ cl C s0 H0 ex,SimG (V7 X N' sc cl C s0 H0 ex) tg ga) (O:∀ cl C s0 H0 ex,SimE (V7 X N' sc cl C s0 H0 ex) E0 elt me) (J:∀ cl C s0 H0 ex,SimTs (V7 X N' sc cl C s0 H0 ex) ifs mt)
  (Z:Q3p cap ga) (I:X.N=N:=by rfl) (B:X.env.scope=scE:=by rfl) (U:compOkC N N' sc scE cap=true:=by kernel_rfl) (hs:∀ x,aw iter X.env x=pure x:=by intro _; rfl) :
  SimN X E (.ListComp elt [⟨tg,iter,ifs,0⟩] sc pos) (Y3 cap ga mi mt me):=
 ⟨fun Γ σ H ρ st P Q R G h k=>WE.of (Qim q Qsn Qw2 Qw5 Qqn I B U hs) (Qbi hi Y O J Z R G h k)⟩
end
inductive SR where
 | nx (Γ:Gam) (st:Q1) | rt (v:PV) (st:Q1) | bk (Γ:Gam) (st:Q1) | ct (Γ:Gam) (st:Q1) | exc (x:Exc) (st:Q1) | stuck
abbrev MS:=Gam->Q1->SR
variable {m1:MS}
def Res.sbind {α:Type} (r:Res α) (f:α->Q1->SR):SR:=match r with
 | .ok a st=>f a st
 | .exc x st=>.exc x st
 | .stuck=>.stuck
def AccS (mg:Str->Option aB) (E:XK) (D:Ends) (H:Hp) (ρ:Tk):SR->Prop
 | .nx Γ st=>∀ σ' H' ρ',Ext H ρ H' ρ'->Rel H' ρ' st->EnvR H' ρ' Γ σ'->D.nx σ' H'
 | .bk Γ st=>∀ σ' H' ρ',Ext H ρ H' ρ'->Rel H' ρ' st->EnvR H' ρ' Γ σ'->D.bk σ' H'
 | .ct Γ st=>∀ σ' H' ρ',Ext H ρ H' ρ'->Rel H' ρ' st->EnvR H' ρ' Γ σ'->D.ct σ' H'
 | .rt p st=>∀ v H' ρ',Ext H ρ H' ρ'->Rel H' ρ' st->Rep H' ρ' p v->D.rt v H'
 | .exc x st=>∀ C dv H' ρ',mg x.cls=some (.ref C)->Ext H ρ H' ρ'->Rel H' ρ' st->XFs H' ρ' x.fs dv->E (.ref C) dv H'
 | .stuck=>False
variable {α:Type} {mg:Str->Option aB} {D:Ends} {H1:Hp} {ρ1:Tk}
theorem AccS.later {r:SR} (h:AccS mg E D H ρ r) (x:Ext H ρ H1 ρ1):AccS mg E D H1 ρ1 r:=by
 cases r with
 | nx Γ st=>exact fun q H' ρ' B=>h q H' ρ' (x.trans B)
 | bk Γ st=>exact fun q H' ρ' B=>h q H' ρ' (x.trans B)
 | ct Γ st=>exact fun q H' ρ' B=>h q H' ρ' (x.trans B)
 | rt p st=>exact fun v H' ρ' B=>h v H' ρ' (x.trans B)
 | exc y st=>exact fun C dv H' ρ' m B=>h C dv H' ρ' m (x.trans B)
 | stuck=>exact h
theorem AccS.bind {r:Res α} {f:α->Q1->SR} (h:AccS mg E D H ρ (r.sbind f)):Acc mg E H ρ (fun a q H1 ρ1=>AccS mg E D H1 ρ1 (f a q)) r:=by
 cases r with
 | ok a st=>exact fun H' ρ' B G=>AccS.later (show AccS mg E D H ρ (f a st) from h) B
 | exc e st=>exact h
 | stuck=>exact h
theorem Res.sassoc (r:Res α) (f:α->Q1->Res β) (g:β->Q1->SR):(r.bind f).sbind g=r.sbind fun a st=>(f a st).sbind g:=by cases r <;> rfl
theorem AccS.assoc {r:Res α} {f:α->Q1->Res β} {g:β->Q1->SR} (h:AccS mg E D H ρ ((r.bind f).sbind g)):AccS mg E D H ρ (r.sbind fun a st=>(f a st).sbind g):=by
 rw [<- Res.sassoc]; exact h
structure SimS (X:Cx) (E:XK) (s:aK) (m:MS):Prop where
 run:∀ (Γ:Gam) (σ:St) (H:Hp) (ρ:Tk) (st:Q1) (D:Ends),Rel H ρ st->EnvR H ρ Γ σ->AccS X.mg E D H ρ (m Γ st)->WS X s D σ H
structure SimB (X:Cx) (E:XK) (ss:List aK) (m:MS):Prop where
 run:∀ (Γ:Gam) (σ:St) (H:Hp) (ρ:Tk) (st:Q1) (D:Ends),Rel H ρ st->EnvR H ρ Γ σ->AccS X.mg E D H ρ (m Γ st)->WB X ss D σ H
variable {e:aD} {m:ME}
def Zw:MS:=fun Γ st=>.nx Γ st
def Qf (m1 m2:MS):MS:=fun Γ st=>match m1 Γ st with
 | .nx Γ1 st1=>m2 Γ1 st1
 | r=>r
theorem Qhw:SimB X E [] Zw:=⟨fun Γ σ H ρ st D R G h=>WB.of Q94 (h σ H ρ (Ext.refl _ _) R G)⟩
theorem Q4c {rest:List aK} {m2:MS} (h1:SimS X E s m1) (h2:SimB X E rest m2):SimB X E (s :: rest) (Qf m1 m2):=
 ⟨fun Γ σ H ρ st D R G h=>WB.of (zg Qw0 Q59) (h1.run Γ σ H ρ st _ R G (by
  unfold Qf at h;cases r:m1 Γ st with
  | nx Γ1 q=>rw [r] at h; exact fun B H' ρ' I O J=>h2.run Γ1 B H' ρ' q D O J (AccS.later h I)
  | bk Γ1 q=>rw [r] at h; exact h
  | ct Γ1 q=>rw [r] at h; exact h
  | rt p q=>rw [r] at h; exact h
  | exc x q=>rw [r] at h; exact h
  | stuck=>rw [r] at h; exact h))⟩
theorem Q2p (h1:SimS X E s m1):SimB X E [s] m1:=⟨fun Γ σ H ρ st D R G h=>WB.of (yn Qw0) (h1.run Γ σ H ρ st D R G h)⟩
theorem Qdg:SimS X E (.Pass pos) Zw:=⟨fun Γ σ H ρ st D R G h=>WS.of Qnc (h σ H ρ (Ext.refl _ _) R G)⟩
def Wd (m:ME):MS:=fun Γ st=>(m Γ st).sbind fun _ st1=>.nx Γ st1
theorem Q8w (B:SimE X E e m) (hs:swapsWith e none pos.line X.env=pure false:=by rfl):SimS X E (.Expr e pos) (Wd m):=
 ⟨fun Γ σ H ρ st D R G h=>WS.of (Qdm Yi hs) (B.use R G h.bind fun p q H1 ρ1 v O I J U h1=>h1 σ H1 ρ1 (Ext.refl _ _) I J)⟩
def Jv (m:ME):MS:=fun Γ st=>(m Γ st).sbind fun p st1=>.rt p st1
theorem Qc4 (B:SimE X E e m):SimS X E (.Return (some e) pos) (Jv m):=
 ⟨fun Γ σ H ρ st D R G h=>WS.of (Q5a Yi) (B.use R G h.bind fun p q H1 ρ1 v O I U J h1=>h1 v H1 ρ1 (Ext.refl _ _) I J)⟩
def Qz (i:Nat) (m:ME):MS:=fun Γ st=>(m Γ st).sbind fun p st1=>.nx (Γ.set i (some p)) st1
theorem Qrt (i:Nat) {x:Str} {pos':Pos} (B:X.N.Nodup) (I:SimE X E e m) (hi:X.N[i]?=some x:=by rfl) (J:Loc X.env.scope x:=by first | exact Or.inl rfl | exact Or.inr rfl) (hs:swapsWith e (some (.Name x pos')) pos.line X.env=pure false:=by rfl) (U:X.fn x=true\/X.env.scope.names.lookup x=some .local:=by first | exact .inl rfl | exact .inr rfl) :
  SimS X E (.Assign [.Name x pos'] e pos) (Qz i m):=
 ⟨fun Γ σ H ρ st D R G h=>WS.of (Q95 B hi J Yi hs U) (I.use R G h.bind fun p q H1 ρ1 v x1 O Z Y h1=>h1 _ H1 ρ1 (Ext.refl _ _) O (Z.set Y i))⟩
section
variable {tg iter elt:aD} {ifs:List aD} {N N':List Str} {sc scE:Scope} {ga:GA} {mi:MI} {mt:MT} {me:ME}
theorem Qhh (cap:List (Option Nat)) (N':List Str) (i:Nat) {x:Str} {px cpos:Pos} (B:X.N.Nodup) (q:X.calm=true) (hi:SimI X E tg iter mi) (hg:∀ cl C s0 H0 ex,SimG (V7 X N' sc cl C s0 H0 ex) tg ga) (he:∀ cl C s0 H0 ex,SimE (V7 X N' sc cl C s0 H0 ex) E0 elt me) (ht:∀ cl C s0 H0 ex,SimTs (V7 X N' sc cl C s0 H0 ex) ifs mt)
  (hf:Q3p cap ga) (I:X.N[i]?=some x:=by rfl) (hx:Loc X.env.scope x:=by first | exact Or.inl rfl | exact Or.inr rfl) (O:swapsWith (.ListComp elt [⟨tg,iter,ifs,0⟩] sc cpos) (some (.Name x px)) pos.line X.env=pure true:=by rfl)
  (Y:X.N=N:=by rfl) (hE:X.env.scope=scE:=by rfl) (hc:compOkC N N' sc scE cap=true:=by kernel_rfl) (hs:∀ x,aw iter X.env x=pure x:=by intro _; rfl) (J:X.fn x=true\/X.env.scope.names.lookup x=some .local:=by first | exact .inl rfl | exact .inr rfl) :
  SimS X E (.Assign [.Name x px] (.ListComp elt [⟨tg,iter,ifs,0⟩] sc cpos) pos) (Qz i (Xh (Y3 cap ga mi mt me))):=
 ⟨fun Γ σ H ρ st D R G h=>WS.of (Qib B I hx q Qsn Qw2 Qw5 Qqn O Y hE hc hs J) (Qbi hi hg he ht hf R G (AccS.bind (by unfold Qz Xh at h; exact AccS.assoc h)) fun ps a2 H1 ρ1 a vs eq x R1 Z hn ha r=>by
  obtain ⟨U,R2,r2⟩:=Qdv R x R1 Z hn ha r;simp only [Qz,Xh,eq,Res.bind,Res.sbind] at h;exact h _ _ _ U R2 ((G.ext U).set r2 i))⟩
end
def Qfz (ga:GA) (m:ME):MS:=fun Γ st=>(m Γ st).sbind fun p st1=>match ga p Γ with
 | some Γ1=>.nx Γ1 st1
 | none=>.stuck
theorem Qrw (J:SimE X E e m) (U:SimG X tg ga) (hs:swapsWithSole [tg] e pos.line X.env=pure false:=by rfl) (hw:swappedStores [tg] e X.env=pure none:=by rfl) (h1:(aq [tg] X.env).map (·.2)=[assign tg X.env]:=by rfl):SimS X E (.Assign [tg] e pos) (Qfz ga m):=
 ⟨fun Γ σ H ρ st D R G h=>WS.of (Qic Yi Qnh hs hw h1) (J.use R G h.bind fun p I H1 ρ1 v x1 Y G1 Z h1=>by
  cases q:ga p Γ with
  | none=>rw [q] at h1; exact h1.elim
  | some Γ1=>
   rw [q] at h1;exact U.run Γ Γ1 σ H1 ρ1 p v _ G1 Z q fun B O=>h1 B H1 ρ1 (Ext.refl _ _) Y O)⟩
def Q05 (st:Q1) (o i p:PV):Option Q1:=match o,i with
 | .ref k,.int j=>match st[k]? with
  | some (.lst xs)=>(ixN xs.length j).map fun n=>st.set k (.lst (xs.set n p))
  | _=>none
 | _,_=>none
def x9 (mo mi m:ME):MS:=fun Γ st=>(m Γ st).sbind fun p st1=>(mo Γ st1).sbind fun o st2=>(mi Γ st2).sbind fun i st3=>match Q05 st3 o i p with
 | some st4=>.nx Γ st4
 | none=>.stuck
theorem Qmq {st':Q1} {o i:PV} {x y z:V} (R:Rel H ρ st) (U:Rep H ρ o x) (O:Rep H ρ i y) (Y:Rep H ρ p z) (e:Q05 st o i p=some st') :
  ∃ a vs k j,x=.ref a/\y=.int k/\H a=some (.lst vs)/\ixN vs.length k=some j/\Ext H ρ (upd H a (.lst (vs.set j z))) ρ/\Rel (upd H a (.lst (vs.set j z))) ρ st':=by
 unfold Q05 at e
 split at e
 ·rename_i k j
  split at e
  ·rename_i xs hs;cases B:ixN xs.length j with
   | none=>rw [B] at e; cases e
   | some n=>
    rw [B] at e;have e:st.set k (.lst (xs.set n p))=st':=Option.some.inj e;subst e;obtain ⟨a,q,rfl⟩:=U;cases O;obtain ⟨b,vs,I,G,J⟩:=R.lst hs;rw [q] at I; cases I;exact ⟨a,vs,j,n,rfl,rfl,G,by rw [<- J.length]; exact B,Ext.put (D6 q) G,R.put q G (J.set Y n)⟩
  ·cases e
 ·cases e
theorem Qrs {o i:aD} {mo mi:ME} {tpos:Pos} (he:SimE X E e m) (ho:SimE X E o mo) (hi:SimE X E i mi)
  (ha:∀ v,assign (.Subscript o i tpos) X.env v=(do
   let q <- aj [v] (aM o X.env)
   let B <- aj [v,q] (aM i X.env)
   standAt tpos
   aj [v,q,B] (setItem q B v)
   release [v,q,B] []):=by intro _; rfl)
  (hs:swapsWithSole [.Subscript o i tpos] e pos.line X.env=pure false:=by rfl) (hw:swappedStores [.Subscript o i tpos] e X.env=pure none:=by rfl) (h1:(aq [.Subscript o i tpos] X.env).map (·.2)=[assign (.Subscript o i tpos) X.env]:=by rfl) :
  SimS X E (.Assign [.Subscript o i tpos] e pos) (x9 mo mi m):=
 ⟨fun Γ σ H ρ st D R G h=>WS.of (Qic Yi (Qsr Yi Yi Qhk ha) hs hw h1) (he.use R G h.bind fun p a2 H1 ρ1 z x1 R1 G1 r1 h1=>ho.use R1 G1 h1.bind fun q a5 H2 a4 x x2 R2 G2 r2 h2=>hi.use R2 G2 h2.bind fun B J H3 O y U R3 G3 r3 I=>by
  cases es:Q05 J q B p with
  | none=>rw [es] at I; exact I.elim
  | some a3=>
   rw [es] at I;obtain ⟨a,vs,k,j,rfl,rfl,Z,f2,Y,R4⟩:=Qmq R3 (r2.ext U) r3 (r1.ext (x2.trans U)) es;exact ⟨a,vs,k,j,rfl,rfl,Z,f2,I σ _ O Y R4 (G3.ext Y)⟩)⟩
def Ye (mt:MT) (ma mb:MS):MS:=fun Γ st=>(mt Γ st).sbind fun b st1=>if b=true then ma Γ st1 else mb Γ st1
theorem Qqg {a b:List aK} {ma mb:MS} (J:SimT X E c mt) (O:SimB X E a ma) (U:SimB X E b mb):SimS X E (.If c a b pos) (Ye mt ma mb):=
 ⟨fun Γ σ H ρ st D R G h=>WS.of (Qia Qaf Q59 Q59) (J.use R G h.bind fun k q H1 ρ1 Y B I h1=>by
  cases k with
  | true=>rw [bN rfl] at h1 ⊢; exact O.run Γ σ H1 ρ1 q D B I h1
  | false=>rw [bO D2] at h1 ⊢; exact U.run Γ σ H1 ρ1 q D B I h1)⟩
open Classical in
def Kx (ga:GA) (body:MS) (w:Wt):List PV->Gam->Q1->SR
 | [],Γ,st=>if wOk w st then .nx Γ st else .stuck
 | x :: xs,Γ,st=>if wOk w st then (match ga x Γ with
  | none=>.stuck
  | some Γ1=>match body Γ1 st with
   | .nx Γ2 st2=>Kx ga body w xs Γ2 st2
   | .ct Γ2 st2=>Kx ga body w xs Γ2 st2
   | .bk Γ2 st2=>.nx Γ2 st2
   | .rt v st2=>.rt v st2
   | .exc x st2=>.exc x st2
   | .stuck=>.stuck) else .stuck
def Q62 (ga:GA) (mi:MI) (body:MS):MS:=fun Γ st=>(mi Γ st).sbind fun iw st1=>Kx ga body iw.2 iw.1 Γ st1
theorem Qru {bd:List aK} {body:MS} (hp:PassesOwn (aJ X.prog X.w) X.A X.env X.xe) (hc:X.calm=true) (hi:SimI X E tg iter mi) (hg:SimG X tg ga) (hb:SimB X E bd body)
  (hs:∀ x,aw iter X.env x=pure x:=by intro _; rfl):SimS X E (.For tg iter bd [] pos) (Q62 ga mi body):=
 ⟨fun Γ σ H ρ st D R G h=>WS.of (Qsj hp hc Qsn Qnh Q59 hs) (hi.run Γ σ H ρ st _ _ R G h.bind fun I a6 H1 ρ1 J eq x1 R1 G1 ok hl src h1=>by
  let W:Nat->Nat->St->Hp->Prop:=fun i m O H'=>m=I.1.length - i/\i<=I.1.length/\∃ a2 ρ' st',Ext H1 ρ1 H' ρ'/\Rel H' ρ' st'/\EnvR H' ρ' a2 O/\AccS X.mg E D H' ρ' (Kx ga body I.2 (I.1.drop i) a2 st')
  refine ⟨W,⟨_,rfl,Nat.zero_le _,Γ,ρ1,a6,Ext.refl _ _,R1,G1,by rw [List.drop_zero]; exact h1⟩,?_⟩;rintro i m O H' ⟨hm,a8,a2,ρ',st',x,R',G',Y⟩
  by_cases a4:i < I.1.length
  ·right
   have hd:I.1.drop i=I.1[i] :: I.1.drop (i + 1):=List.drop_eq_getElem_cons a4;rw [hd,Kx] at Y
   by_cases hw:wOk I.2 st'
   ·rw [bN hw] at Y;refine ⟨src.go H' ρ' st' x R' hw i a4,fun a5 H2=>W (i + 1) (I.1.length - (i + 1)) a5 H2,fun a5 H2 z=>⟨_,by omega,z⟩,fun y H2 hy=>?_⟩
    obtain ⟨sm,ry⟩:=src.yld H' ρ' st' x R' hw i _ (O5 a4) y H2 hy;have x2:Ext H' ρ' H2 ρ':=Ext.same sm;cases eg:ga I.1[i] a2 with
    | none=>rw [eg] at Y; exact Y.elim
    | some Γ1=>
     rw [eg] at Y;refine hg.run a2 Γ1 O H2 ρ' _ y _ (G'.ext x2) ry eg fun a7 G3=>?_
     have q:=AccS.later Y x2;simp only at q;refine hb.run Γ1 a7 H2 ρ' st' _ (R'.same sm) G3 ?_;have again:∀ {U:Gam} {B:Q1},AccS X.mg E D H2 ρ' (Kx ga body I.2 (I.1.drop (i + 1)) U B)->∀ O a3 Z,Ext H2 ρ' a3 Z->Rel a3 Z B->EnvR a3 Z U O->W (i + 1) (I.1.length - (i + 1)) O a3:=fun {U B} a σ4 H4 ρ4 x4 R4 G4=>
      ⟨rfl,a4,U,ρ4,B,x.trans (x2.trans x4),R4,G4,AccS.later a x4⟩
     cases rb:body Γ1 st' with
     | nx U B=>rw [rb] at q; exact again q
     | ct U B=>rw [rb] at q; exact again q
     | bk U B=>rw [rb] at q; exact q
     | rt v B=>rw [rb] at q; exact q
     | exc y B=>rw [rb] at q; exact q
     | stuck=>rw [rb] at q; exact q.elim
   ·rw [bO hw] at Y; exact Y.elim
  ·left
   have ei:i=I.1.length:=by omega
   subst ei;rw [List.drop_length,Kx] at Y
   by_cases hw:wOk I.2 st'
   ·rw [bN hw] at Y;exact ⟨src.stop H' ρ' st' x R' hw,Y O H' ρ' (Ext.refl _ _) R' G'⟩
   ·rw [bO hw] at Y; exact Y.elim)⟩
def K2 (mt:MT) (body:MS):Nat->Gam->Q1->SR
 | 0,_,_=>.stuck
 | n + 1, Γ, st => (mt Γ st).sbind fun b st1 => if b = true then (match body Γ st1 with
   | .nx Γ2 st2=>K2 mt body n Γ2 st2
   | .ct Γ2 st2=>K2 mt body n Γ2 st2
   | .bk Γ2 st2=>.nx Γ2 st2
   | .rt v st2=>.rt v st2
   | .exc x st2=>.exc x st2
   | .stuck=>.stuck) else .nx Γ st1
theorem Qa7 (n:Nat) {bd:List aK} {body:MS} (hp:PassesOwn (aJ X.prog X.w) X.A X.env X.xe) (hc:SimT X E c mt) (hb:SimB X E bd body):SimS X E (.While c bd [] pos) (K2 mt body n):=
 ⟨fun Γ σ H ρ st D R G h=>WS.of (Qi8 hp Qaf Q59) (by
  let W:Nat->St->Hp->Prop:=fun m I H'=>∃ O ρ' st',Rel H' ρ' st'/\EnvR H' ρ' O I/\AccS X.mg E D H' ρ' (K2 mt body m O st')
  refine ⟨W,⟨n,Γ,ρ,st,R,G,h⟩,?_⟩;rintro m I H' ⟨O,ρ',st',R',G',hA⟩;cases m with
  | zero=>exact hA.elim
  | succ m=>
   rw [K2] at hA;refine hc.use R' G' hA.bind fun b Z H1 ρ1 x1 R1 G1 h1=>?_
   cases b with
   | false=>rw [bO D2] at h1 ⊢; exact h1 I H1 ρ1 (Ext.refl _ _) R1 G1
   | true=>
    rw [bN rfl] at h1 ⊢;refine ⟨fun Y H2=>W m Y H2,fun Y H2 z=>⟨m,Nat.lt_succ_self _,z⟩,hb.run O I H1 ρ1 Z _ R1 G1 ?_⟩
    have again:∀ {B:Gam} {q:Q1},AccS X.mg E D H1 ρ1 (K2 mt body m B q)->∀ I U J,Ext H1 ρ1 U J->Rel U J q->EnvR U J B I->W m I U:=fun {B q} a σ4 H4 ρ4 x4 R4 G4=>⟨B,ρ4,q,R4,G4,AccS.later a x4⟩
    cases rb:body O Z with
    | nx B q=>rw [rb] at h1; exact again h1
    | ct B q=>rw [rb] at h1; exact again h1
    | bk B q=>rw [rb] at h1; exact h1
    | rt v q=>rw [rb] at h1; exact h1
    | exc y q=>rw [rb] at h1; exact h1
    | stuck=>rw [rb] at h1; exact h1.elim)⟩
def Xi (x:Str) (m:ME):MS:=fun Γ st=>(m Γ st).sbind fun _ st1=>.exc ⟨x,none⟩ st1
theorem Qhg {x:Str} {C:aA} {np cpos:Pos} (B:X.calm=true) (Z:Q6u X E) (hg:Gl X x) (O:X.mg x=some (.ref C)) (q:PySem.W.excIn X.K C Uj "ValueError.__new__" = true) (Y:SimE X E e m)
  (J:(x == ("__debug__" : Str))=false:=by decide) (I:aO [e] X.env=[(false,aM e X.env)]:=by rfl):SimS X E (.Raise (some (.Call (.Name x np) [e] [] cpos)) none pos) (Xi x m):=
 ⟨fun Γ σ H ρ st D R G h=>WS.of (Qf9 B Z hg O q (Qu Yi Yg (by rw [I]; rfl)) J I) (Y.use R G h.bind fun p U H1 ρ1 v x1 R1 G1 r1 h1=>⟨F0 (show 1<=lim by decide) Qcv,h1 C none H1 ρ1 O (Ext.refl _ _) R1 rfl⟩)⟩
def WM (X:Cx) (id:String):V->List V->Hp->VK->Prop:=fun x xs H Q=>∀ (pins:List (aA × Obj)) (s:aC) (σ:St) (v:aB) (us:List aB),Inv X pins σ H s->RelV x v->Vals xs us->aI (aJ X.prog X.w) X.A (call (.builtin id) (v :: us)) (EP X pins σ Q) X.xe s
theorem Qz9 {id:String}:MtR X id (WM X id):=fun pins s σ _ _ _ v us _ I r q h=>h pins s σ v us I r q
theorem WM.of {id:String} {r:V->List V->Hp->VK->Prop} {x:V} {xs:List V} (h:MtR X id r) (q:r x xs H Q):WM X id x xs H Q:=fun pins s σ v us I G B=>h pins s σ H x xs v us Q I G B q
abbrev MF:=Q1->PV->List PV->Res PV
structure MtS (X:Cx) (E:XK) (id:String) (o:MF):Prop where
 run:∀ (H:Hp) (ρ:Tk) (st:Q1) (p:PV) (ps:List PV) (x:V) (xs:List V) (Q:VK),Rel H ρ st->Rep H ρ p x->RepL H ρ ps xs->Acc X.mg E H ρ (QV Q) (o st p ps)->WM X id x xs H Q
variable {o:aD} {es:List aD} {mo:ME} {mr:Gam->Q1->Res (List PV)} {name:Str} {apos cpos:Pos} {T:String} {f:MF}
section
variable {id:String}
def mBM (f:MF) (mo:ME) (mr:Gam->Q1->Res (List PV)):ME:=fun Γ st=>(mo Γ st).bind fun p st1=>match xi st1 p with
 | some _=>(mr Γ st1).bind fun ps st2=>f st2 p ps
 | none=>.stuck
theorem Qqh (pa:PlainAttrs "list") (slot:Slot "list" name id) (O:typeOf (.builtin id)=pure (.type "method_descriptor")) (hm:MtS X E id f) (ho:SimE X E o mo) (ha:SimA X E (e :: es) mr)
  (B:ak o name X.env (aM o X.env)=aM o X.env:=by rfl)
  (J:((aU cpos (aO (e :: es) X.env)).all (fun x=>!x.1) && (backToKw cpos (keywordEach [] X.env)).all (fun x=>x.1.isSome)
   && decide ((e :: es).length + ([]:List Keyword).length + (if ([]:List Keyword).isEmpty then 0 else 1) < 30))=true:=by rfl)
  (I:(apos.endLine == cpos.line)=true:=by rfl) (hs:aO (e :: es) X.env=(false,aM e X.env) :: aO es X.env:=by rfl) (q:(aU cpos (aO es X.env)).any (·.1)=false:=by rfl) :
  SimE X E (.Call (.Attribute o name apos) (e :: es) [] cpos) (mBM f mo mr):=
 ⟨fun Γ σ H ρ st Q R G h=>WE.of (Qip pa slot O Qz9 Yi Q24 B J I hs q) (ho.use R G h.bind fun p a2 H1 ρ1 v x1 R1 G1 Z h1=>by
  split at h1
  ·rename_i ys el;obtain ⟨a,vs,rfl,hr,_⟩:=Q4g R1 Z el;exact ⟨.inl ⟨rfl,vs,.inl hr⟩,ha.use R1 G1 h1.bind fun ps Y H2 U us x2 R2 G2 r2 h2=>hm.run H2 U Y p ps _ us Q R2 (Z.ext x2) r2 h2⟩
  ·exact h1.elim)⟩
def chg (st:Q1) (p:PV) (g:List PV->Option (PV × List PV)):Res PV:=match p with
 | .ref i=>match st[i]? with
  | some (.lst xs)=>match g xs with
   | some (r,ys)=>.ok r (st.set i (.lst ys))
   | none=>.stuck
  | _=>.stuck
 | _=>.stuck
theorem Qej {x:V} {g:List PV->Option (PV × List PV)} (R:Rel H ρ st) (O:Rep H ρ p x) (h:Acc mg E H ρ (QV Q) (chg st p g)) :
  ∃ a xs vs r ys,x=.ref a/\H a=some (.lst vs)/\RepL H ρ xs vs/\g xs=some (r,ys)/\∀ us v,RepL H ρ ys us->Rep H ρ r v->Q v (upd H a (.lst us)):=by
 unfold chg at h
 split at h
 ·rename_i i
  split at h
  ·rename_i xs hs
   split at h
   ·rename_i r ys U;obtain ⟨a,q,rfl⟩:=O;obtain ⟨b,vs,G,B,I⟩:=R.lst hs;rw [q] at G; cases G;refine ⟨a,xs,vs,r,ys,rfl,B,I,U,fun us v J Y=>?_⟩;have x:=Ext.put (o':=.lst us) (D6 q) B;exact h _ ρ x (R.put q B J) v (Y.ext x)
   ·exact h.elim
  ·exact h.elim
 ·exact h.elim
def Ws:MF:=fun st p ps=>match ps with
 | [y]=>chg st p fun xs=>if xs.length < lim then some (.non,xs ++ [y]) else none
 | _=>.stuck
theorem Qfv:MtS X E "list.append" Ws:=⟨fun H ρ st p ps x xs Q R J I h=>by
 unfold Ws at h
 split at h
 ·obtain ⟨v,rfl,r⟩:=Wr I;obtain ⟨a,ys,vs,O,zs,rfl,G,B,q,k⟩:=Qej R J h
  split at q
  ·rename_i hl;cases q;exact WM.of Qft ⟨a,vs,v,rfl,rfl,G,by rw [<- B.length]; exact D3 hl Qcv,k _ _ (B.append (RepL.cons r RepL.nil)) rfl⟩
  ·cases q
 ·exact h.elim⟩
def Q0d:MF:=fun st p ps=>match ps with
 | [q]=>match Q0h st q with
  | some ys=>chg st p fun xs=>if xs.length + ys.length<=lim then some (.non,xs ++ ys) else none
  | none=>.stuck
 | _=>.stuck
theorem Qfu:MtS X E "list.extend" Q0d:=⟨fun H ρ st p ps x xs Q R O I h=>by
 unfold Q0d at h
 split at h
 ·obtain ⟨v,rfl,r⟩:=Wr I
  split at h
  ·rename_i Y J;obtain ⟨b,us,rfl,U,rb⟩:=Q64 R r J;obtain ⟨a,ys,vs,Z,zs,rfl,G,B,q,k⟩:=Qej R O h
   split at q
   ·rename_i hl;cases q;exact WM.of Qfr ⟨a,b,vs,us,rfl,rfl,G,U,by rw [<- B.length,<- rb.length]; exact Xk hl,k _ _ (B.append rb) rfl⟩
   ·cases q
  ·exact h.elim
 ·exact h.elim⟩
theorem Qf1 (I:SimE X E o mo) (J:SimA X E [e] mr) (q:ak o "append" X.env (aM o X.env)=aM o X.env:=by rfl)
  (G:((aU cpos (aO [e] X.env)).all (fun x=>!x.1) && (backToKw cpos (keywordEach [] X.env)).all (fun x=>x.1.isSome) && decide ([e].length + ([]:List Keyword).length + (if ([]:List Keyword).isEmpty then 0 else 1) < 30))=true:=by rfl)
  (B:(apos.endLine == cpos.line)=true:=by rfl) (hs:aO [e] X.env=(false,aM e X.env) :: aO [] X.env:=by rfl):SimE X E (.Call (.Attribute o "append" apos) [e] [] cpos) (mBM Ws mo mr):=
 Qqh PySem.F.plainAttrs_list PySem.F.slot_list_append PySem.F.type_list_append Qfv I J q G B hs
theorem Qf0 (I:SimE X E o mo) (J:SimA X E [e] mr) (q:ak o "extend" X.env (aM o X.env)=aM o X.env:=by rfl)
  (G:((aU cpos (aO [e] X.env)).all (fun x=>!x.1) && (backToKw cpos (keywordEach [] X.env)).all (fun x=>x.1.isSome) && decide ([e].length + ([]:List Keyword).length + (if ([]:List Keyword).isEmpty then 0 else 1) < 30))=true:=by rfl)
  (B:(apos.endLine == cpos.line)=true:=by rfl) (hs:aO [e] X.env=(false,aM e X.env) :: aO [] X.env:=by rfl):SimE X E (.Call (.Attribute o "extend" apos) [e] [] cpos) (mBM Q0d mo mr):=
 Qqh PySem.F.plainAttrs_list PySem.F.slot_list_extend PySem.F.type_list_extend Qfu I J q G B hs
end
section
mutual
def fz (n:Nat) (st:Q1):Nat->PV->Option PV
 | 0,_=>none
 | _ + 1,.non=>some .non
 | _ + 1,.bl b=>some (.bl b)
 | _ + 1,.int i=>some (.int i)
 | _ + 1,.str x=>some (.str x)
 | k + 1,.tup xs=>(fzL n st k xs).map .tup
 | k + 1,.lst xs=>(fzL n st k xs).map .lst
 | k + 1,.fro xs=>(fzL n st k xs).map .fro
 | _ + 1,.dic=>some .dic
 | k + 1,.ref i=>if i < n then some (.ref i) else match st[i]? with
  | some (.lst xs)=>(fzL n st k xs).map .lst
  | _=>none
def fzL (n:Nat) (st:Q1):Nat->List PV->Option (List PV)
 | _,[]=>some []
 | k,x :: xs=>(fz n st k x).bind fun y=>(fzL n st k xs).map (y :: ·)
end
theorem Q2f :∀ {m k:Nat} {p:PV},Zq m p=true->m < k->fz n st k p=some p:=by
 intro m
 induction m with
 | zero=>
  intro k p g G;obtain ⟨k,rfl⟩:∃ j,k=j + 1:=⟨k - 1,by omega⟩;cases p with
  | tup _=>cases g
  | lst _=>cases g
  | fro _=>cases g
  | ref _=>cases g
  | dic=>cases g
  | _=>rw [fz]
 | succ m I=>
  intro k p g G;obtain ⟨k,rfl⟩:∃ j,k=j + 1:=⟨k - 1,by omega⟩;have q:∀ xs:List PV,xs.all (Zq m)=true->fzL n st k xs=some xs:=by
   intro xs
   induction xs with
   | nil=>intro _; rw [fzL]
   | cons x xs B=>
    intro g;rw [List.all_cons,F5] at g;rw [fzL,I g.1 (by omega),B g.2]; rfl
  cases p with
  | tup xs=>rw [fz,q xs g]; rfl
  | lst xs=>rw [fz,q xs g]; rfl
  | fro xs=>rw [fz,q xs g]; rfl
  | ref _=>cases g
  | dic=>cases g
  | _=>rw [fz]
section
variable {H:Hp} {ρ:Tk} {st:Q1} {tr0 rest hs:List aA}
theorem Qjm (R:Rel H ρ st) (ht:ρ.tr=tr0 ++ rest) (hh:∀ a,a∈hs->a∈ρ.hid):∀ (k:Nat) {p Y:PV} {v:V},Rep H ρ p v->fz tr0.length st k p=some Y->Rep H ⟨tr0,hs⟩ Y v:=by
 have B:∀ a,a∉ρ->a∉(⟨tr0,hs⟩:Tk):=fun a n z=>by
  rcases z with z | z
  ·exact n (.inl (by rw [ht]; exact F7 _ z))
  ·exact n (.inr (hh a z))
 intro k
 induction k with
 | zero=>intro p Y v r e; rw [fz] at e; cases e
 | succ k ih=>
  have U:∀ {ps q:List PV} {vs:List V},RepL H ρ ps vs->fzL tr0.length st k ps=some q->RepL H ⟨tr0,hs⟩ q vs:=by
   intro ps
   induction ps with
   | nil=>intro q vs r e; rw [fzL] at e; cases e; exact r
   | cons x xs a2=>
    intro q vs r e;obtain ⟨v,t,rfl,r1,r2⟩:=r;rw [fzL] at e;cases e1:fz tr0.length st k x with
    | none=>rw [e1] at e; cases e
    | some y=>
     rw [e1] at e;have e:(fzL tr0.length st k xs).map (y :: ·)=some q:=e;cases e2:fzL tr0.length st k xs with
     | none=>rw [e2] at e; cases e
     | some ys=>
      rw [e2] at e;cases e;exact ⟨v,t,rfl,ih r1 e1,a2 r2 e2⟩
  intro p Y v r e;cases p with
  | non=>rw [fz] at e; cases e; exact r
  | bl b=>rw [fz] at e; cases e; exact r
  | int i=>rw [fz] at e; cases e; exact r
  | str x=>rw [fz] at e; cases e; exact r
  | tup xs=>
   rw [fz] at e;obtain ⟨a,vs,e1,G,I,O⟩:=r;cases e2:fzL tr0.length st k xs with
   | none=>rw [e2] at e; cases e
   | some ys=>rw [e2] at e; cases e; exact ⟨a,vs,e1,G,B a I,U O e2⟩
  | lst xs=>
   rw [fz] at e;obtain ⟨a,vs,e1,G,I,O⟩:=r;cases e2:fzL tr0.length st k xs with
   | none=>rw [e2] at e; cases e
   | some ys=>rw [e2] at e; cases e; exact ⟨a,vs,e1,G,B a I,U O e2⟩
  | fro xs=>
   rw [fz] at e;obtain ⟨a,vs,e1,G,I,O⟩:=r;cases e2:fzL tr0.length st k xs with
   | none=>rw [e2] at e; cases e
   | some ys=>rw [e2] at e; cases e; exact ⟨a,vs,e1,G,B a I,U O e2⟩
  | dic=>
   rw [fz] at e;cases e;obtain ⟨a,e1,G,I⟩:=r;exact ⟨a,e1,G,B a I⟩
  | ref i=>
   rw [fz] at e;obtain ⟨a,J,rfl⟩:=r
   by_cases hi:i < tr0.length
   ·rw [bN hi] at e;cases e;rw [ht,O3 hi] at J;exact ⟨a,J,rfl⟩
   ·rw [bO hi] at e
    split at e
    ·rename_i xs Z;obtain ⟨b,vs,f1,f2,f3⟩:=R.lst Z;rw [J] at f1; cases f1;cases e2:fzL tr0.length st k xs with
     | none=>rw [e2] at e; cases e
     | some ys=>
      rw [e2] at e; cases e;refine ⟨a,vs,rfl,f2,fun z=>?_,U f3 e2⟩;rcases z with z | z
      ·have z:a∈tr0:=z;obtain ⟨j,hj,ej⟩:=List.getElem_of_mem z;have g1:ρ.tr[j]?=some a:=by rw [ht,O3 hj,O5 hj,ej]
       have l1:=O0.mp g1;have l2:=O0.mp J;have:=Q82 R.nd l1.1 l2.1 (l1.2.trans l2.2.symm);omega
      ·exact R.ap a (hh a z) (D6 J)
    ·cases e
mutual
def bel (n:Nat):PV->Prop
 | .tup xs=>Q9v n xs
 | .lst xs=>Q9v n xs
 | .fro xs=>Q9v n xs
 | .ref i=>i < n
 | _=>True
def Q9v (n:Nat):List PV->Prop
 | []=>True
 | x :: xs=>bel n x/\Q9v n xs
end
mutual
theorem Rep.bel:∀ {p:PV} {v:V},Rep H ρ p v->bel ρ.tr.length p
 | .non,_,_=>by simp [Sm.bel]
 | .bl _,_,_=>by simp [Sm.bel]
 | .int _,_,_=>by simp [Sm.bel]
 | .str _,_,_=>by simp [Sm.bel]
 | .tup ps,_,⟨_,_,_,_,_,r⟩=>by rw [Sm.bel]; exact RepL.bel r
 | .lst ps,_,⟨_,_,_,_,_,r⟩=>by rw [Sm.bel]; exact RepL.bel r
 | .fro ps,_,⟨_,_,_,_,_,r⟩=>by rw [Sm.bel]; exact RepL.bel r
 | .ref i,_,⟨_,e,_⟩=>by rw [Sm.bel]; exact (O0.mp e).1
 | .dic,_,_=>by simp [Sm.bel]
theorem RepL.bel:∀ {ps:List PV} {vs:List V},RepL H ρ ps vs->Q9v ρ.tr.length ps
 | [],_,_=>by simp [Q9v]
 | p :: ps,_,⟨_,_,_,B,q⟩=>by rw [Q9v]; exact ⟨Rep.bel B,RepL.bel q⟩
end
mutual
theorem Rep.less (q:ρ.tr=tr0 ++ rest) (B:∀ a,a∈hs->a∈ρ.hid):∀ {p:PV} {v:V},Sm.bel tr0.length p->Rep H ρ p v->Rep H ⟨tr0,hs⟩ p v
 | .non,_,_,r=>r
 | .bl _,_,_,r=>r
 | .int _,_,_,r=>r
 | .str _,_,_,r=>r
 | .tup ps,_,b,⟨a,vs,e,I,G,r⟩=>⟨a,vs,e,I,fun z=>G (z.imp (fun z=>by rw [q]; exact F7 _ z) (B a)),RepL.less q B (by rw [Sm.bel] at b; exact b) r⟩
 | .lst ps,_,b,⟨a,vs,e,I,G,r⟩=>⟨a,vs,e,I,fun z=>G (z.imp (fun z=>by rw [q]; exact F7 _ z) (B a)),RepL.less q B (by rw [Sm.bel] at b; exact b) r⟩
 | .fro ps,_,b,⟨a,vs,e,I,G,r⟩=>⟨a,vs,e,I,fun z=>G (z.imp (fun z=>by rw [q]; exact F7 _ z) (B a)),RepL.less q B (by rw [Sm.bel] at b; exact b) r⟩
 | .ref i,_,b,⟨a,e,e2⟩=>⟨a,by rw [Sm.bel] at b; rw [q,O3 b] at e; exact e,e2⟩
 | .dic,_,_,⟨a,e,I,G⟩=>⟨a,e,I,fun z=>G (z.imp (fun z=>by rw [q]; exact F7 _ z) (B a))⟩
theorem RepL.less (B:ρ.tr=tr0 ++ rest) (q:∀ a,a∈hs->a∈ρ.hid):∀ {ps:List PV} {vs:List V},Q9v tr0.length ps->RepL H ρ ps vs->RepL H ⟨tr0,hs⟩ ps vs
 | [],_,_,r=>r
 | p :: ps,_,b,⟨v,t,e,I,G⟩=>by
  rw [Q9v] at b;exact ⟨v,t,e,Rep.less B q b.1 I,RepL.less B q b.2 G⟩
end
end
theorem Qad {H':Hp} {ρ':Tk} {st':Q1} (R:Rel H ρ st) (x:Ext H ρ H' ρ') (U:Rel H' ρ' st') (hp:st <+: st'):Ext H ρ H' ρ/\Rel H' ρ st:=by
 obtain ⟨rest,G⟩:=x.pre;obtain ⟨more,O⟩:=hp;refine ⟨⟨List.prefix_refl _,fun _ h=>h,fun _ h=>.inl h,x.keep,fun _ h=>.inl h,x.old,x.frz⟩,R.len,R.nd,fun a J=>let ⟨o,e,n⟩:=R.hd a J; ⟨o,x.keep a o e (R.ap a J),n⟩,R.ap,fun i a c h1 h2=>?_⟩
 have hi:i < st.length:=(O0.mp h2).1;have q:=U.cell i a c (by rw [<- G,O3 (O0.mp h1).1]; exact h1) (by rw [<- O,O3 hi]; exact h2);have I:=R.cell i a c h1 h2;cases c with
 | lst ps=>
  obtain ⟨vs,e1,e2⟩:=q;obtain ⟨us,_,B⟩:=I;exact ⟨vs,e1,RepL.less (ρ:=ρ') (tr0:=ρ.tr) (hs:=ρ.hid) G.symm x.hidM B.bel e2⟩
 | dic ps=>
  obtain ⟨vs,e1,e2⟩:=q;obtain ⟨us,_,B⟩:=I;exact ⟨vs,e1,e2.1,RepL.less (ρ:=ρ') (tr0:=ρ.tr) (hs:=ρ.hid) G.symm x.hidM B.2.bel e2.2⟩
 | dtp ps=>
  obtain ⟨vs,e1,e2⟩:=q;obtain ⟨us,_,B⟩:=I;exact ⟨vs,e1,e2.1,RepL.less (ρ:=ρ') (tr0:=ρ.tr) (hs:=ρ.hid) G.symm x.hidM B.2.bel e2.2⟩
 | frd ps=>
  obtain ⟨vs,e1,e2⟩:=q;obtain ⟨us,_,B⟩:=I;exact ⟨vs,e1,e2.1,RepL.less (ρ:=ρ') (tr0:=ρ.tr) (hs:=ρ.hid) G.symm x.hidM B.2.bel e2.2⟩
 | obj C ps=>
  obtain ⟨vs,e1,e2⟩:=q;obtain ⟨us,_,B⟩:=I;exact ⟨vs,e1,e2.1,RepL.less (ρ:=ρ') (tr0:=ρ.tr) (hs:=ρ.hid) G.symm x.hidM B.2.bel e2.2⟩
abbrev FN:=List PV->Q1->Res PV
variable {FF:FN}
open Classical in
def fin (st:Q1) (v:PV) (st':Q1):Res PV:=if st <+: st' then okO st (fz st.length st' 16 v) else .ok v st'
open Classical in
def Qd1 (st:Q1) (x:Exc) (st':Q1):Res PV:=if st <+: st' then (match x.fs with
 | none=>.exc x st
 | some (n,p)=>match fz st.length st' 16 p with
  | some q=>.exc ⟨x.cls,some (n,q)⟩ st
  | none=>.stuck) else .exc x st'
def Qh (body:MS) (nl:Nat):FN:=fun ps st=>match body (ps.map some ++ List.replicate (nl - ps.length) none) st with
 | .rt v st'=>fin st v st'
 | .nx _ st'=>fin st .non st'
 | .exc x st'=>Qd1 st x st'
 | _=>.stuck
theorem Qee {st':Q1} (R:Rel H ρ st) (h:Acc mg E H ρ (QV Q) (fin st p st')):∀ v H' ρ',Ext H ρ H' ρ'->Rel H' ρ' st'->Rep H' ρ' p v->Q v H':=fun v H' ρ' x B r=>by
 unfold fin at h
 by_cases hp:st <+: st'
 ·rw [bN hp] at h;cases e:fz st.length st' 16 p with
  | none=>rw [e] at h; exact h.elim
  | some q=>
   rw [e] at h;obtain ⟨G,R2⟩:=Qad R x B hp;obtain ⟨rest,I⟩:=x.pre;rw [<- R.len] at e;exact h H' ρ G R2 v (Qjm (tr0:=ρ.tr) (hs:=ρ.hid) B I.symm x.hidM 16 r e)
 ·rw [bO hp] at h;exact h H' ρ' x B v r
def spF (mg:Str->Option aB) (n:Nat) (F:FN):Sp:=fun vs H Q E=>vs.length=n/\∃ ρ st ps,Rel H ρ st/\RepL H ρ ps vs/\Acc mg E H ρ (QV Q) (F ps st)
theorem Q7r (r:RepL H ρ ps vs):EnvR H ρ (ps.map some ++ List.replicate (N.length - ps.length) none) (L2.start N vs):=by
 have hl:=r.length;unfold L2.start;refine ⟨by simp [hl],fun i p e=>?_⟩
 by_cases hi:i < ps.length
 ·rw [O3 (by simpa using hi),E5] at e;rw [O3 (by simp; omega),E5];cases q:ps[i]? with
  | none=>rw [q] at e; cases e
  | some B=>
   rw [q] at e;cases e;obtain ⟨v,e1,e2⟩:=r.get q;exact ⟨v,by rw [e1]; rfl,e2⟩
 ·rw [D0 (by simpa using hi),List.getElem?_replicate] at e
  split at e <;> cases e
section
variable {P:aN} {w:aL} {K:PySem.W.Frag} {mg:Str->Option aB} {base:Heap}
theorem Qu0 {x qual:Str} {st:aK} {f:aA} {ps:List Str} {k:Nat} {m:MS} (F:Fun K x qual st f fd) (S:FnScope N ps (Q7 st))
  (hb:∀ (J:aB) (A:aQ) (outer:List PySem.Env) (s:aC) (H:Hp) (E:XK),Room k (A.deeper (PyProof.Rows.envOfC qual (Q7 st) s.heap.objs.size f J))->SimB (cxD P w K mg base N qual (Q7 st) f J A outer s H E) E (Yc st) m) :
  FnOk P w K mg base (CXD P w) (k + 1) f fd ps (spF mg ps.length (Qh m N.length)):=by
 refine Fun.okD F S (fun vs H Q E h=>h.1) fun J A outer s H vs Q E hr a2=>⟨_,Q59,?_⟩
 obtain ⟨hl,ρ,I,Z,R,rl,B⟩:=a2;refine (hb J A outer s H E hr).run _ (L2.start N vs) H ρ I _ R (Q7r rl) ?_;unfold Qh at B;cases U:m (Z.map some ++ List.replicate (N.length - Z.length) none) I with
 | rt v G=>rw [U] at B; exact Qee R B
 | nx Γ G=>rw [U] at B; exact fun a3 H' ρ' O Y G'=>Qee R B .non H' ρ' O Y rfl
 | bk Γ G=>rw [U] at B; exact B.elim
 | ct Γ G=>rw [U] at B; exact B.elim
 | stuck=>rw [U] at B; exact B.elim
 | exc y G=>
  rw [U] at B;have B:Acc mg E H ρ (QV Q) (Qd1 I y G):=B;intro C dv H' ρ' hm O Y hf;unfold Qd1 at B
  by_cases hp:I <+: G
  ·rw [bN hp] at B;obtain ⟨x2,R2⟩:=Qad R O Y hp;obtain ⟨cls,fs⟩:=y;cases fs with
   | none=>exact B C dv H' ρ hm x2 R2 hf
   | some np=>
    obtain ⟨nm,p⟩:=np;simp only at B;cases e:fz I.length G 16 p with
    | none=>rw [e] at B; exact B.elim
    | some q=>
     rw [e] at B;obtain ⟨rest,ht⟩:=O.pre;rw [<- R.len] at e;obtain ⟨dx,v,e1,e2,e3,e4⟩:=hf;refine B C dv H' ρ hm x2 R2 ⟨dx,v,e1,e2,fun z=>e3 (z.imp (fun z=>by rw [<- ht]; exact F7 _ z) (O.hidM dx)),Qjm (tr0:=ρ.tr) (hs:=ρ.hid) Y ht.symm O.hidM 16 e4 e⟩
  ·rw [bO hp] at B;exact B C dv H' ρ' hm O Y hf
end
theorem Q9j {P:aN} {w:aL} {mg:Str->Option aB} {base:Heap} {x qual:Str} {st:aK} {f:aA} {ps:List Str} {k nl:Nat} {m:MS} (F:Fun K x qual st f fd) (S:FnScope N ps (Q7 st)) (G:ps.length=n) (B:N.length=nl) (I:FF=Qh m nl)
  (J:∀ (q:aB) (A:aQ) (outer:List PySem.Env) (s:aC) (H:Hp) (E:XK),Room k (A.deeper (PyProof.Rows.envOfC qual (Q7 st) s.heap.objs.size f q))->SimB (cxD P w K mg base N qual (Q7 st) f q A outer s H E) E (Yc st) m) :
  FnOk P w K mg base (CXD P w) (k + 1) f fd ps (spF mg n FF):=by
 subst G; subst B; subst I;exact Qu0 F S J
structure DefS (P:aN) (w:aL) (K:PySem.W.Frag) (mg:Str->Option aB) (base:Heap) (k:Nat) (x:Str) (n:Nat) (F:FN):Prop where
 ex:∃ (f:aA) (fd:aP) (ps:List Str),FnOk P w K mg base (CXD P w) k f fd ps (spF mg n F)/\mg x=some (.ref f)/\PySem.W.keepIn K (.ref f)=true/\Binds K fd ps []/\ps.length=n
def Qc (n:Nat) (F:FN) (mr:Gam->Q1->Res (List PV)):ME:=fun Γ st=>(mr Γ st).bind fun ps st1=>if ps.length=n then F ps st1 else .stuck
section
variable {X:Cx} {E:XK} {k n:Nat} {x:Str} {F:FN} {p pos:Pos} {e:aD} {es:List aD} {mr:Gam->Q1->Res (List PV)}
theorem Q4b (D:DefS X.prog X.w X.K X.mg X.base k x n F) (hr:Room k X.A) (hx:Ke (CXD X.prog X.w) X E) (hg:Gl X x) (ha:SimA X E (e :: es) mr) (B:(x == ("__debug__" : Str))=false:=by decide)
  (Z:aO (e :: es) X.env=(false,aM e X.env) :: aO es X.env:=by rfl) (q:(aU pos (aO es X.env)).any (·.1)=false:=by rfl):SimE X E (.Call (.Name x p) (e :: es) [] pos) (Qc n F mr):=by
 obtain ⟨f,fd,ps,hF,Y,hk,hb,hl⟩:=D.ex;exact ⟨fun Γ σ H ρ st Q R G h=>WE.of (Qdr hF hr hg Y hk hb .nil hx Q24 B Z q) (ha.use R G h.bind fun U I H1 ρ1 vs x1 R1 G1 O h1=>by
  by_cases J:U.length=n
  ·rw [bN J] at h1;show spF X.mg n F (vs ++ []) H1 Q E;rw [G6];exact ⟨by rw [<- O.length]; exact J,ρ1,I,U,R1,O,h1⟩
  ·rw [bO J] at h1; exact h1.elim)⟩
end
end
@[simp] theorem Qs (a:α) (st:Q1) (f:α->Q1->Res β):(Res.ok a st).bind f=f a st:=rfl
@[simp] theorem Quf (f:α->Q1->Res β):(Res.stuck:Res α).bind f=.stuck:=rfl
@[simp] theorem Qxp (x:Exc) (st:Q1) (f:α->Q1->Res β):(Res.exc x st:Res α).bind f=.exc x st:=rfl
@[simp] theorem Vh (a:α) (st:Q1) (f:α->Q1->SR):(Res.ok a st).sbind f=f a st:=rfl
@[simp] theorem Qqj (f:α->Q1->SR):(Res.stuck:Res α).sbind f=.stuck:=rfl
@[simp] theorem Qut (x:Exc) (st:Q1) (f:α->Q1->SR):(Res.exc x st:Res α).sbind f=.exc x st:=rfl
@[simp] theorem Qy5 (i:Nat) (Γ:Gam) (st:Q1):Q3 i Γ st=(match Γ[i]? with | some (some p)=>.ok p st | _=>.stuck):=rfl
@[simp] theorem Qzs (p:PV) (Γ:Gam) (st:Q1):mC p Γ st=.ok p st:=rfl
@[simp] theorem Qtj (o:OP) (a b:ME) (Γ:Gam) (st:Q1):mOp o a b Γ st=(a Γ st).bind fun x B=>(b Γ B).bind fun y q=>o q x y:=rfl
@[simp] theorem Qzk (b:Bool) (st:Q1):asB (.bl b) st=.ok b st:=rfl
@[simp] theorem Qrc (m:ME) (Γ:Gam) (st:Q1):toB m Γ st=(m Γ st).bind asB:=rfl
def Qms {α:Type} (x:PV) (A B:Res α):Res α:=match x with
 | .bl true=>A
 | .bl false=>B
 | _=>.stuck
@[simp] theorem Qxv (b:Bool) (A B:Res α):Qms (.bl b) A B=if b=true then A else B:=by cases b <;> rfl
@[simp] theorem Qux (o o':OP) (a b c:ME) (Γ:Gam) (st:Q1):xh o o' a b c Γ st=(a Γ st).bind fun x G=>(b Γ G).bind fun y B=>(o B x y).bind fun k q=>Qms k ((c Γ q).bind fun z I=>o' I y z) (.ok (.bl false) q):=by
 unfold xh;refine congrArg _ (funext fun x=>funext fun G=>congrArg _ (funext fun y=>funext fun B=>congrArg _ (funext fun k=>funext fun q=>?_)))
 cases k with
 | bl b=>cases b <;> rfl
 | _=>rfl
@[simp] theorem Qe6 (a b:ME) (Γ:Gam) (st:Q1):Q43 a b Γ st=(a Γ st).bind fun x q=>Qms x (b Γ q) (.ok (.bl false) q):=by
 unfold Q43;refine congrArg _ (funext fun x=>funext fun q=>?_);cases x with
 | bl b=>cases b <;> rfl
 | _=>rfl
@[simp] theorem Qzc (a b:ME) (Γ:Gam) (st:Q1):mOr a b Γ st=(a Γ st).bind fun x q=>Qms x (.ok (.bl true) q) (b Γ q):=by
 unfold mOr;refine congrArg _ (funext fun x=>funext fun q=>?_);cases x with
 | bl b=>cases b <;> rfl
 | _=>rfl
@[simp] theorem Qy6 (a:ME) (Γ:Gam) (st:Q1):Qtk a Γ st=(a Γ st).bind fun x q=>(match x with | .bl k=>.ok (.bl (!k)) q | _=>.stuck):=rfl
@[simp] theorem Qy8 (a:ME) (Γ:Gam) (st:Q1):xg a Γ st=(a Γ st).bind fun x q=>(match x with | .int k=>.ok (.int (-k)) q | _=>.stuck):=rfl
@[simp] theorem Qa5 (a b:MT) (Γ:Gam) (st:Q1):xz a b Γ st=(a Γ st).bind fun k q=>if k=true then b Γ q else .ok false q:=rfl
@[simp] theorem Qde (a b:MT) (Γ:Gam) (st:Q1):Q3q a b Γ st=(a Γ st).bind fun k q=>if k=true then .ok true q else b Γ q:=rfl
@[simp] theorem Qhd (a:MT) (Γ:Gam) (st:Q1):Xy a Γ st=(a Γ st).bind fun k q=>.ok (!k) q:=rfl
@[simp] theorem Qy7 (Γ:Gam) (st:Q1):Q4 Γ st=.ok [] st:=rfl
@[simp] theorem Qj6 (m:ME) (mr:ML) (Γ:Gam) (st:Q1):Q0 m mr Γ st=(m Γ st).bind fun p B=>(mr Γ B).bind fun ps q=>.ok (p :: ps) q:=rfl
@[simp] theorem Qp6 (mr:ML) (Γ:Gam) (st:Q1):Y2 mr Γ st=(mr Γ st).bind fun ps q=>if ps.length<=lim then .ok (.tup ps) q else .stuck:=rfl
@[simp] theorem Qy9 (mr:ML) (Γ:Gam) (st:Q1):Kv mr Γ st=(mr Γ st).bind fun ps q=>if ps.length<=lim then .ok (.lst ps) q else .stuck:=rfl
@[simp] theorem Qwz (mr:ML) (Γ:Gam) (st:Q1):jd mr Γ st=(mr Γ st).bind fun ps q=>if ps.length<=lim then .ok ps q else .stuck:=rfl
@[simp] theorem Qj3 (m:ME) (l h:Gam->Q1->Res (Option Int)) (Γ:Gam) (st:Q1):mSl m l h Γ st=(m Γ st).bind fun p B=>(l Γ B).bind fun lo q=>(h Γ q).bind fun hi G=>oSl G p lo hi:=rfl
@[simp] theorem Qtm (Γ:Gam) (st:Q1):Ym Γ st=.ok none st:=rfl
@[simp] theorem Qwx (m:ME) (Γ:Gam) (st:Q1):Wm m Γ st=(m Γ st).bind fun p q=>(match p with | .int i=>.ok (some i) q | _=>.stuck):=rfl
@[simp] theorem Qj7 (o:CF) (mr:ML) (Γ:Gam) (st:Q1):Qw o mr Γ st=(mr Γ st).bind fun ps q=>o q ps:=rfl
@[simp] theorem Qya (T:String) (m:ME) (Γ:Gam) (st:Q1):Qb1 T m Γ st=(m Γ st).bind fun p q=>if Q1s q p=true then .stuck else .ok (.bl (isI T (dpv q p))) q:=rfl
@[simp] theorem Qxd (st:Q1):Q1s st .non=false:=rfl
@[simp] theorem Qyc (st:Q1) (b:Bool):Q1s st (.bl b)=false:=rfl
@[simp] theorem Qxf (st:Q1) (b:Int):Q1s st (.int b)=false:=rfl
@[simp] theorem Qxb (st:Q1) (b:Str):Q1s st (.str b)=false:=rfl
@[simp] theorem Qxa (st:Q1) (b:List PV):Q1s st (.tup b)=false:=rfl
@[simp] theorem Qxe (st:Q1) (b:List PV):Q1s st (.lst b)=false:=rfl
@[simp] theorem Qxg (st:Q1) (b:List PV):Q1s st (.fro b)=false:=rfl
@[simp] theorem Qxh (st:Q1):Q1s st .dic=false:=rfl
@[simp] theorem Qxc (st:Q1) (i:Nat):Q1s st (.ref i)=(match st[i]? with | some (.frd _)=>true | some (.obj _ _)=>true | _=>false):=rfl
@[simp] theorem Qyh (st:Q1):dpv st .non=.non:=rfl
@[simp] theorem Qzj (st:Q1) (b:Bool):dpv st (.bl b)=(.bl b):=rfl
@[simp] theorem Qyj (st:Q1) (b:Int):dpv st (.int b)=(.int b):=rfl
@[simp] theorem Qyg (st:Q1) (b:Str):dpv st (.str b)=(.str b):=rfl
@[simp] theorem Qyf (st:Q1) (b:List PV):dpv st (.tup b)=(.tup b):=rfl
@[simp] theorem Qyi (st:Q1) (b:List PV):dpv st (.lst b)=(.lst b):=rfl
@[simp] theorem Qyk (st:Q1) (b:List PV):dpv st (.fro b)=(.fro b):=rfl
@[simp] theorem Qzi (st:Q1):dpv st .dic=.dic:=rfl
@[simp] theorem Qzt (st:Q1) (i:Nat):dpv st (.ref i)=(match st[i]? with | some (.dic _)=>.dic | some (.dtp _)=>.dic | _=>.ref i):=rfl
@[simp] theorem Qp5 (m:ML) (Γ:Gam) (st:Q1):Xh m Γ st=(m Γ st).bind fun ps q=>.ok (.lst ps) q:=rfl
@[simp] theorem Qp7 (m:ML) (Γ:Gam) (st:Q1):Q02 m Γ st=(m Γ st).bind fun ps q=>.ok (.ref q.length) (q ++ [.lst ps]):=rfl
@[simp] theorem Qfy (cap:List (Option Nat)) (ga:GA) (mi:MI) (mt:MT) (me:ME) (Γ:Gam) (st:Q1):Y3 cap ga mi mt me Γ st=(mi Γ st).bind fun B q=>noX (Jf ga mt me B.2 (Zc cap Γ) B.1 q):=rfl
@[simp] theorem Qww (Γ:Gam) (st:Q1):Zg Γ st=.ok true st:=rfl
@[simp] theorem Q83 (n:Nat) (F:FN) (mr:ML) (Γ:Gam) (st:Q1):Qc n F mr Γ st=(mr Γ st).bind fun ps q=>if ps.length=n then F ps q else .stuck:=rfl
@[simp] theorem Qwy (Γ:Gam) (st:Q1):Zw Γ st=.nx Γ st:=rfl
@[simp] theorem Q5z (a b:MS) (Γ:Gam) (st:Q1):Qf a b Γ st=(match a Γ st with | .nx Γ1 q=>b Γ1 q | r=>r):=rfl
@[simp] theorem Q2c (m:ME) (Γ:Gam) (st:Q1):Wd m Γ st=(m Γ st).sbind fun _ q=>.nx Γ q:=rfl
@[simp] theorem Q2b (m:ME) (Γ:Gam) (st:Q1):Jv m Γ st=(m Γ st).sbind fun p q=>.rt p q:=rfl
@[simp] theorem Qp8 (i:Nat) (m:ME) (Γ:Gam) (st:Q1):Qz i m Γ st=(m Γ st).sbind fun p q=>.nx (Γ.set i (some p)) q:=rfl
@[simp] theorem Qe5 (c:MT) (a b:MS) (Γ:Gam) (st:Q1):Ye c a b Γ st=(c Γ st).sbind fun k q=>if k=true then a Γ q else b Γ q:=rfl
@[simp] theorem Qpa (ga:GA) (mi:MI) (b:MS) (Γ:Gam) (st:Q1):Q62 ga mi b Γ st=(mi Γ st).sbind fun B q=>Kx ga b B.2 B.1 Γ q:=rfl
@[simp] theorem Qp9 (m:ME) (Γ:Gam) (st:Q1):Q03 m Γ st=(m Γ st).bind fun p q=>(match Ut q p with | some (xs,w)=>if xs.length<=lim then .ok (xs,w) q else .stuck | none=>.stuck):=rfl
@[simp] theorem Ui (mr:ML) (Γ:Gam) (st:Q1):Yj mr Γ st=(mr Γ st).bind fun ps q=>(match ps with | [.int j]=>if -(lim:Int)<=j/\j<=lim then .ok (Zh 0 j.toNat,[]) q else .stuck | _=>.stuck):=rfl
@[simp] theorem Q60 (mr:ML) (Γ:Gam) (st:Q1):xb mr Γ st=(mr Γ st).bind fun ps q=>(match ps with | [.int i,.int j]=>if -(lim:Int)<=i/\i<=lim/\-(lim:Int)<=j/\j<=lim then .ok (Zh i (j - i).toNat,[]) q else .stuck | _=>.stuck):=rfl
@[simp] theorem Qy4 (mr:ML) (Γ:Gam) (st:Q1):Q7i mr Γ st=(mr Γ st).bind fun ps B=>(match ps with | [p,q]=>(match Ut B p,Ut B q with | some (xs,w),some (ys,G)=>if xs.length<=lim then .ok (Q4r xs ys,w ++ G) B else .stuck | _,_=>.stuck) | _=>.stuck):=rfl
@[simp] theorem Qtn (f:MF) (mo:ME) (mr:ML) (Γ:Gam) (st:Q1):mBM f mo mr Γ st=(mo Γ st).bind fun p q=>(match xi q p with | some _=>(mr Γ q).bind fun ps B=>f B p ps | none=>.stuck):=rfl
@[simp] theorem Qpc (ga:GA) (m:ME) (Γ:Gam) (st:Q1):Qfz ga m Γ st=(m Γ st).sbind fun p q=>(match ga p Γ with | some Γ1=>.nx Γ1 q | none=>.stuck):=rfl
@[simp] theorem Qfw (mo mi m:ME) (Γ:Gam) (st:Q1):x9 mo mi m Γ st=(m Γ st).sbind fun p B=>(mo Γ B).sbind fun o q=>(mi Γ q).sbind fun i G=>(match Q05 G o i p with | some I=>.nx Γ I | none=>.stuck):=rfl
@[simp] theorem Quv (x:Str) (m:ME) (Γ:Gam) (st:Q1):Xi x m Γ st=(m Γ st).sbind fun _ q=>.exc ⟨x,none⟩ q:=rfl
@[simp] theorem Quz (i:Nat) (p:PV) (Γ:Gam):Qg i p Γ=some (Γ.set i (some p)):=rfl
@[simp] theorem Qx7 (Γ:Gam):Ki [] Γ=some Γ:=rfl
@[simp] theorem Qv0 (g:GA) (gs:GAs) (p:PV) (r:List PV) (Γ:Gam):Y5 g gs (p :: r) Γ=(g p Γ).bind (gs r):=rfl
@[simp] theorem Qx6 (gs:GAs) (ps:List PV) (Γ:Gam):Kh gs (.tup ps) Γ=gs ps Γ:=rfl
@[simp] theorem Qz7 (a:α) (st:Q1):noX (Res.ok a st)=.ok a st:=rfl
@[simp] theorem Quu :noX (Res.stuck:Res α)=.stuck:=rfl
@[simp] theorem Qas (st:Q1) (a:α):okO st (some a)=.ok a st:=rfl
@[simp] theorem Qwj (st:Q1):okO st (none:Option α)=.stuck:=rfl
@[simp] theorem Qzr (g:Int->Int->PV) (st:Q1) (a b:Int):oI g st (.int a) (.int b)=.ok (g a b) st:=rfl
@[simp] theorem Qws (st:Q1) (a b:Int):Yb st (.int a) (.int b)=.ok (.int (a + b)) st:=rfl
@[simp] theorem Qwr (st:Q1) (a b:List PV):Yb st (.tup a) (.tup b)=if a.length + b.length<=lim then .ok (.tup (a ++ b)) st else .stuck:=rfl
@[simp] theorem Qwm (st:Q1) (a b:Int):Q41 st (.int a) (.int b)=if (-(2 ^ 64) < a/\a < 2 ^ 64)\/(-(2 ^ 64) < b/\b < 2 ^ 64) then .ok (.int (a * b)) st else .stuck:=rfl
@[simp] theorem Qwk (st:Q1) (xs:List PV) (b:Int):Q41 st (.tup xs) (.int b)=if xs≠[]/\1<=b/\xs.length * b.toNat<=4096 then .ok (.tup (List.replicate b.toNat xs).flatten) st else .stuck:=rfl
@[simp] theorem Qwn (st:Q1) (a b:Int):Q27 st (.int a) (.int b)=if 0 < b then .ok (.int (a % b)) st else .stuck:=rfl
@[simp] theorem Qwq (st:Q1) (a b:Int):Qp2 st (.int a) (.int b)=if 0 < b/\b < 1073741824 then .ok (.int (a / b)) st else .stuck:=rfl
@[simp] theorem Qiy (st:Q1) (a b:Int):Q40 st (.int a) (.int b)=if 0<=b/\b<=1000000/\a.natAbs < 2 ^ 64 then .ok (.int (a ^ b.toNat)) st else .stuck:=rfl
@[simp] theorem Qy0 (st:Q1) (a b:Int):oLt st (.int a) (.int b)=.ok (.bl (decide (a < b))) st:=rfl
@[simp] theorem Qy3 (st:Q1) (a b:Int):oEq st (.int a) (.int b)=.ok (.bl (a == b)) st:=rfl
@[simp] theorem Qxz (st:Q1) (a b:Int):oNe st (.int a) (.int b)=.ok (.bl (!(a == b))) st:=rfl
@[simp] theorem Qz6 (st:Q1) (a b:Bool):oEq st (.bl a) (.bl b)=.ok (.bl (a == b)) st:=rfl
@[simp] theorem Qz5 (st:Q1) (a b:Bool):oNe st (.bl a) (.bl b)=.ok (.bl (!(a == b))) st:=rfl
@[simp] theorem Qy2 (st:Q1) (a b:Str):oEq st (.str a) (.str b)=.ok (.bl (a == b)) st:=rfl
@[simp] theorem Qxy (st:Q1) (a b:Str):oNe st (.str a) (.str b)=.ok (.bl (!(a == b))) st:=rfl
@[simp] theorem Quy (st:Q1) (xs:List PV):Q0h st (.lst xs)=some xs:=rfl
@[simp] theorem Qtp (st:Q1) (xs:List PV):xi st (.lst xs)=some xs:=rfl
@[simp] theorem Qtq (st:Q1) (xs:List PV):xi st (.fro xs)=some xs:=rfl
@[simp] theorem Q7t (st:Q1) (xs:List PV):Xb st (.lst xs)=some xs:=rfl
@[simp] theorem Qus (st:Q1) (xs:List PV):Xb st (.fro xs)=some xs:=rfl
@[simp] theorem Qey (st:Q1) (xs:List PV):Xb st (.tup xs)=some xs:=rfl
@[simp] theorem Quq (st:Q1) (xs:List PV):Ut st (.lst xs)=some (xs,[]):=rfl
@[simp] theorem Qur (st:Q1) (xs:List PV):Ut st (.fro xs)=some (xs,[]):=rfl
@[simp] theorem Qup (st:Q1) (xs:List PV):Ut st (.tup xs)=some (xs,[]):=rfl
theorem Xj {i:Nat} (h:st[i]?=some (.lst xs)):Q0h st (.ref i)=some xs:=by simp only [Q0h,h]
@[simp] theorem Q9a (st:Q1) (xs:List PV) (i:Int):oIx st (.tup xs) (.int i)=okO st (atI xs i):=rfl
@[simp] theorem Qp1 (st:Q1) (xs:List PV) (i:Int):oIx st (.lst xs) (.int i)=okO st (atI xs i):=rfl
@[simp] theorem Qy1 (st:Q1) (xs:List PV) (i:Int):oIx st (.fro xs) (.int i)=okO st (atI xs i):=rfl
@[simp] theorem ja (st:Q1) (xs:List PV) (l h:Option Int):oSl st (.tup xs) l h=.ok (.tup (cut xs l h)) st:=rfl
@[simp] theorem Qxw (st:Q1) (xs:List PV) (l h:Option Int):oSl st (.lst xs) l h=.ok (.lst (cut xs l h)) st:=rfl
@[simp] theorem Qxx (st:Q1) (xs:List PV) (l h:Option Int):oSl st (.fro xs) l h=.ok (.lst (cut xs l h)) st:=rfl
@[simp] theorem Qxk (st:Q1) (xs:List PV):Zt st [.tup xs]=.ok (.int xs.length) st:=rfl
@[simp] theorem Qbp (st:Q1) (xs:List PV):Zt st [.lst xs]=.ok (.int xs.length) st:=rfl
@[simp] theorem Qkc (st:Q1) (xs:List PV):Zt st [.fro xs]=.ok (.int xs.length) st:=rfl
@[simp] theorem Qud (st:Q1) (xs:List PV):U5 st [.tup xs]=.ok (.tup xs) st:=rfl
@[simp] theorem Que (st:Q1) (xs:List PV):U5 st [.lst xs]=.ok (.tup xs) st:=rfl
@[simp] theorem Q0q (g:List Bool->PV) (st:Q1) (bs:List Bool):xx g st [.lst (bs.map .bl)]=.ok (g bs) st:=by
 simp only [xx,Q7t,Option.bind_some,Qq6]
@[simp] theorem Qgt (g:List Int->Option PV) (st:Q1) (ns:List Int):X6 g st [.lst (ns.map .int)]=okO st (g ns):=by
 simp only [X6,Q7t,Option.bind_some,Qbb]
@[simp] theorem Qgr (g:List Int->Option PV) (st:Q1) (ns:List Int):X6 g st [.tup (ns.map .int)]=okO st (g ns):=by
 simp only [X6,Qey,Option.bind_some,Qbb]
@[simp] theorem Q6q (st:Q1) (a b:Int):Q3c st [.int a,.int b]=.ok (.int (if b > a then b else a)) st:=rfl
@[simp] theorem Qka (st:Q1) (a b:Int):Qgq st [.int a,.int b]=.ok (.int (if b < a then b else a)) st:=rfl
@[simp] theorem Qv4 (st:Q1):wOk [] st=True:=by simp [wOk]
@[simp] theorem Yw (st:Q1) (b:Bool):fin st (.bl b) st=.ok (.bl b) st:=by simp [fin,fz]
@[simp] theorem Qed (st:Q1) (b:Int):fin st (.int b) st=.ok (.int b) st:=by simp [fin,fz]
@[simp] theorem Qye (st:Q1):fin st .non st=.ok .non st:=by simp [fin,fz]
@[simp] theorem Qyd (st:Q1) (b:Str):fin st (.str b) st=.ok (.str b) st:=by simp [fin,fz]
theorem Vm {v:PV} (g:Zq 12 v=true):fin st v st=.ok v st:=by
 simp only [fin,List.prefix_rfl,if_true,Q2f g (by decide:12 < 16),Qas]
theorem Q8d {more:Q1} {v:PV} (g:Zq 12 v=true):fin st v (st ++ more)=.ok v st:=by
 simp only [fin,List.prefix_append,if_true,Q2f g (by decide:12 < 16),Qas]
theorem Ju:lim=1000000:=rfl
theorem Yf (g f:α->PV) {w:Wt} {Γ0:Gam} (B:wOk w st) {ys:List α} (h:∀ y∈ys,∃ Γ1,ga (g y) Γ0=some Γ1/\me Γ1 st=.ok (f y) st):Jf ga Zg me w Γ0 (ys.map g) st=.ok (ys.map f) st:=by
 induction ys with
 | nil=>simp [Jf,B]
 | cons y ys q=>
  obtain ⟨Γ1,h1,h2⟩:=h y D5;have q:=q fun z hz=>h z (D1 _ hz)
  rw [F2,Jf,bN B,h1];simp [h2,q]
theorem zq (g f:α->PV) (t:α->Bool) {w:Wt} {Γ0:Gam} (G:wOk w st) {ys:List α} (h:∀ y∈ys,∃ Γ1,ga (g y) Γ0=some Γ1/\mt Γ1 st=.ok (t y) st/\(t y=true->me Γ1 st=.ok (f y) st)):Jf ga mt me w Γ0 (ys.map g) st=.ok ((ys.filter t).map f) st:=by
 induction ys with
 | nil=>simp [Jf,G]
 | cons y ys q=>
  obtain ⟨Γ1,h1,h2,I⟩:=h y D5;have q:=q fun z hz=>h z (D1 _ hz)
  rw [F2,Jf,bN G,h1];simp only [h2,Qs,q];cases B:t y with
  | true=>simp [I B,B,q]
  | false=>simp [B]
@[simp] theorem Qxn (g:List Bool->PV) (st:Q1) (ys:List α) (b:α->Bool):xx g st [.lst (ys.map fun y=>.bl (b y))]=.ok (g (ys.map b)) st:=by
 rw [show (ys.map fun y=>PV.bl (b y))=(ys.map b).map .bl by rw [L5]; rfl,Q0q]
@[simp] theorem Qgs (g:List Int->Option PV) (st:Q1) (ys:List α) (b:α->Int):X6 g st [.lst (ys.map fun y=>.int (b y))]=okO st (g (ys.map b)):=by
 rw [show (ys.map fun y=>PV.int (b y))=(ys.map b).map .int by rw [L5]; rfl,Qgt]
theorem Q0m (g:α->PV) {xs:List α} (I:Nat->Gam->Q1->Prop) {ga:GA} {body:MS} {w:Wt} (J:∀ i Γ st,I i Γ st->wOk w st)
  (h:∀ (i:Nat) x Γ st,xs[i]?=some x->I i Γ st->∃ Γ1,ga (g x) Γ=some Γ1/\∃ B G,body Γ1 st=.nx B G/\I (i + 1) B G) {Γ:Gam} {st:Q1} (h0:I 0 Γ st):∃ q st',Kx ga body w (xs.map g) Γ st=.nx q st'/\I xs.length q st':=by
 induction xs generalizing I Γ st with
 | nil=>exact ⟨Γ,st,by simp [Kx,J 0 Γ st h0],h0⟩
 | cons x xs O=>
  obtain ⟨Γ1,h1,B,G,e2,i2⟩:=h 0 x Γ st rfl h0;obtain ⟨q,st',e3,U⟩:=O (fun i=>I (i + 1)) (fun i Γ st z=>J (i + 1) Γ st z) (fun i y Γ st Y z=>h (i + 1) y Γ st (by simpa using Y) z) i2
  refine ⟨q,st',?_,U⟩;rw [F2,Kx,bN (J 0 Γ st h0),h1];simp only [e2];exact e3
theorem Q8a (g:α->PV) {xs:List α} (I:List α->Gam->Q1->Prop) {ga:GA} {body:MS} {w:Wt} (U:∀ pre Γ st,I pre Γ st->wOk w st)
  (h:∀ pre x q Γ st,xs=pre ++ x :: q->I pre Γ st->∃ Γ1,ga (g x) Γ=some Γ1/\∃ G J,body Γ1 st=.nx G J/\I (pre ++ [x]) G J) {Γ:Gam} {st:Q1} (h0:I [] Γ st):∃ B st',Kx ga body w (xs.map g) Γ st=.nx B st'/\I xs B st':=by
 have O:∀ (q pre:List α) (Γ:Gam) (st:Q1),xs=pre ++ q->I pre Γ st->∃ B st',Kx ga body w (q.map g) Γ st=.nx B st'/\I xs B st':=by
  intro q
  induction q with
  | nil=>intro pre Γ st e i; exact ⟨Γ,st,by simp [Kx,U pre Γ st i],by rw [e,G6]; exact i⟩
  | cons x q Y=>
   intro pre Γ st e i;obtain ⟨Γ1,h1,G,J,e2,i2⟩:=h pre x q Γ st e i;obtain ⟨B,st',e3,Z⟩:=Y (pre ++ [x]) G J (by rw [e]; simp) i2;refine ⟨B,st',?_,Z⟩;rw [F2,Kx,bN (U pre Γ st i),h1];simp only [e2];exact e3
 exact O xs [] Γ st rfl h0
theorem Qf5 (lo:Int) (n:Nat):Zh lo n=(List.range n).map fun k=>.int (lo + (k:Int)):=rfl
theorem Q04 (f:α->PV) (g:β->PV) (xs:List α) (ys:List β):Q4r (xs.map f) (ys.map g)=(xs.zip ys).map fun z=>.tup [f z.1,g z.2]:=by
 rw [Q8r,List.zip_map,L5]; rfl
theorem Xw (f:α->PV) (xs:List α) (i:Int):atI (xs.map f) i=(atI xs i).map f:=by
 unfold atI;rw [O2];cases ixN xs.length i with
 | none=>rfl
 | some j=>simp [E5]
theorem atI_get {xs:List α} {i:Nat} {x:α} (h:xs[i]?=some x):atI xs (i:Int)=some x:=by
 have hl:=(O0.mp h).1;unfold atI ixN;rw [bN (by omega),bN (by omega)];simpa using h
theorem jg (f:α->PV) (xs:List α) (l h:Option Int):cut (xs.map f) l h=(cut xs l h).map f:=by
 unfold cut;rw [O2,<- List.map_drop,<- List.map_take]
theorem Uw (n:Nat):Zh 0 n=(List.range n).map fun (k:Nat)=>PV.int (k:Int):=by
 unfold Zh;refine List.map_congr_left fun k _=>?_
 rw [Int.zero_add]
@[simp] theorem Qyp (st l:List α) (c:α):(st ++ c :: l)[st.length]?=some c:=by
 rw [D0 (O8 _),Nat.sub_self]; rfl
@[simp] theorem Qxt (st l:List α) (c d:α):(st ++ c :: d :: l)[st.length + 1]?=some d:=by
 rw [D0 (by omega)];rw [show st.length + 1 - st.length=1 by omega]; rfl
@[simp] theorem Qyn (st l:List α) (c d:α):(st ++ c :: l).set st.length d=st ++ d :: l:=by
 rw [List.set_append_right _ _ (O8 _),Nat.sub_self]; rfl
@[simp] theorem Qxs (st l:List α) (c q d:α):(st ++ c :: q :: l).set (st.length + 1) d=st ++ c :: d :: l:=by
 rw [List.set_append_right _ _ (by omega),show st.length + 1 - st.length=1 by omega]; rfl
@[simp] theorem Qym (st:Q1) (i:Nat) (g:List PV->Option (PV × List PV)):chg st (.ref i) g=(match st[i]? with | some (.lst xs)=>(match g xs with | some (r,ys)=>.ok r (st.set i (.lst ys)) | none=>.stuck) | _=>.stuck):=rfl
@[simp] theorem Qyb (st:Q1) (i:Nat):Q0h st (.ref i)=(match st[i]? with | some (.lst xs)=>some xs | _=>none):=rfl
@[simp] theorem Qj8 (st:Q1) (i:Nat):xi st (.ref i)=(match st[i]? with | some (.lst xs)=>some xs | _=>none):=rfl
@[simp] theorem Q4a (st:Q1) (i:Nat):Xb st (.ref i)=(match st[i]? with | some (.lst xs)=>some xs | _=>none):=rfl
@[simp] theorem Qmf (st:Q1) (i:Nat):Ut st (.ref i)=(match st[i]? with | some (.lst xs)=>some (xs,[(i,.lst xs)]) | _=>none):=rfl
@[simp] theorem Qqs (st:Q1) (p y:PV):Ws st p [y]=chg st p fun xs=>if xs.length < lim then some (.non,xs ++ [y]) else none:=rfl
@[simp] theorem Qxj (st:Q1) (i:Nat):U5 st [.ref i]=(match st[i]? with | some (.lst xs)=>.ok (.tup xs) st | _=>.stuck):=by
 unfold U5; simp only [Q4a];cases st[i]? with
 | none=>rfl
 | some c=>cases c <;> rfl
@[simp] theorem Qkb (st:Q1) (i:Nat):Zt st [.ref i]=(match st[i]? with | some (.lst xs)=>.ok (.int xs.length) st | _=>.stuck):=by
 unfold Zt; simp only [Q4a];cases st[i]? with
 | none=>rfl
 | some c=>cases c <;> rfl
@[simp] theorem Qwp (st:Q1) (i:Nat) (j:Int):oIx st (.ref i) (.int j)=(match st[i]? with | some (.lst xs)=>okO st (atI xs j) | _=>.stuck):=by
 unfold oIx; simp only [Q4a];cases st[i]? with
 | none=>rfl
 | some c=>cases c <;> rfl
@[simp] theorem Qxu (st:Q1) (k:Nat) (j:Int) (p:PV):Q05 st (.ref k) (.int j) p=(match st[k]? with | some (.lst xs)=>(ixN xs.length j).map fun n=>st.set k (.lst (xs.set n p)) | _=>none):=rfl
theorem zp (xs:List α) (k:Nat):cut xs none (some (k:Int))=xs.take k:=by
 unfold cut;rw [HT.sIx_none,HT.sIx_nat,List.drop_zero,Nat.sub_zero];rcases Nat.le_total k xs.length with h | h
 ·rw [Nat.min_eq_left h]
 ·rw [Nat.min_eq_right h,List.take_length,List.take_of_length_le h]
theorem qz (xs:List α) (k:Nat):cut xs (some (k:Int)) none=xs.drop k:=by
 unfold cut;rw [HT.sIx_none,HT.sIx_nat];rcases Nat.le_total k xs.length with h | h
 ·rw [Nat.min_eq_left h,List.take_of_length_le (by rw [List.length_drop]; omega)]
 ·rw [Nat.min_eq_right h,List.drop_length,List.drop_of_length_le h]; simp
theorem getD_some {l:List α} {j:Nat} (h:j < l.length) (d:α):l[j]?=some (l.getD j d):=by
 rw [List.getD,O5 h]; rfl
def ListAt (st:Q1) (V:PV) (xs:List PV):Prop:=V=.lst xs\/V=.fro xs\/∃ i,V=.ref i/\st[i]?=some (.lst xs)
theorem ListAt.ix {V:PV} (h:ListAt st V xs) (j:Int):oIx st V (.int j)=okO st (atI xs j):=by
 rcases h with rfl | rfl | ⟨i,rfl,e⟩
 ·rfl
 ·rfl
 ·rw [Qwp,e]
theorem ListAt.len {V:PV} (h:ListAt st V xs):Zt st [V]=.ok (.int xs.length) st:=by
 rcases h with rfl | rfl | ⟨i,rfl,e⟩
 ·rfl
 ·rfl
 ·rw [Qkb,e]
theorem ListAt.src {V:PV} (h:ListAt st V xs):∃ w,Ut st V=some (xs,w)/\wOk w st:=by
 rcases h with rfl | rfl | ⟨i,rfl,e⟩
 ·exact ⟨[],rfl,by simp⟩
 ·exact ⟨[],rfl,by simp⟩
 ·exact ⟨[(i,.lst xs)],by rw [Qmf,e],by simp [wOk,e]⟩
theorem Qgf (g:α->PV) {xs:List α} (I:Nat->List PV->Q1->Prop) {ga:GA} {me:ME} {w:Wt} {Γ0:Gam} (J:∀ i q st,I i q st->wOk w st)
  (h:∀ (i:Nat) x q st,xs[i]?=some x->I i q st->∃ Γ1,ga (g x) Γ0=some Γ1/\∃ v B,me Γ1 st=.ok v B/\I (i + 1) (q ++ [v]) B) {st:Q1} (h0:I 0 [] st):∃ q st',Jf ga Zg me w Γ0 (xs.map g) st=.ok q st'/\I xs.length q st':=by
 have G:∀ (ys:List α) (k:Nat) (pre:List PV) (st:Q1),(∀ i,ys[i]?=xs[k + i]?)->k + ys.length=xs.length->I k pre st->∃ q st',Jf ga Zg me w Γ0 (ys.map g) st=.ok q st'/\I xs.length (pre ++ q) st':=by
  intro ys
  induction ys with
  | nil=>
   intro k pre st e e2 i;refine ⟨[],st,by simp [Jf,J k pre st i],?_⟩;rw [G6,<- e2]; exact i
  | cons y ys U=>
   intro k pre st e e2 i;have O:xs[k]?=some y:=by have:=e 0; simpa using this.symm
   obtain ⟨Γ1,h1,v,B,h2,i2⟩:=h k y pre st O i;obtain ⟨q,st',Z,Y⟩:=U (k + 1) (pre ++ [v]) B (fun i=>by
    have:=e (i + 1);rw [List.getElem?_cons_succ] at this;rw [this]; congr 1; omega) (by rw [<- e2,D7]; omega) i2
   refine ⟨v :: q,st',?_,by simpa using Y⟩;rw [F2,Jf,bN (J k pre st i),h1];simp [Zg,h2,Z]
 obtain ⟨q,st',h1,h2⟩:=G xs 0 [] st (fun i=>by simp) (by simp) h0;exact ⟨q,st',h1,by simpa using h2⟩
theorem Q0u:∀ {xs:List PV},(∀ x∈xs,peq x x=true)->Kk xs xs=true
 | [],_=>rfl
 | x :: xs,h=>by
  rw [Kk,h x D5,Q0u fun y q=>h y (D1 _ q)]; rfl
theorem Q23:∀ {n:Nat} {p:PV},Zq n p=true->peq p p=true
 | n,.non,_=>rfl
 | n,.bl b,_=>by simp [peq]
 | n,.int b,_=>by simp [peq]
 | n,.str b,_=>by simp [peq]
 | n,.ref _,g=>by cases n <;> simp [Zq] at g
 | n,.dic,g=>by cases n <;> simp [Zq] at g
 | 0,.tup _,g=>by simp [Zq] at g
 | 0,.lst _,g=>by simp [Zq] at g
 | 0,.fro _,g=>by simp [Zq] at g
 | n + 1,.tup xs,g=>by
  rw [peq]; refine Q0u fun x q=>Q23 (n:=n) ?_
  simp [Zq] at g; exact g x q
 | n + 1,.lst xs,g=>by
  rw [peq]; refine Q0u fun x q=>Q23 (n:=n) ?_
  simp [Zq] at g; exact g x q
 | n + 1,.fro xs,g=>by
  rw [peq]; refine Q0u fun x q=>Q23 (n:=n) ?_
  simp [Zq] at g; exact g x q
theorem ListAt.eqs {V:PV} (h:ListAt st V xs) (g:Zq dep (.lst xs)=true):oNe st (.lst xs) V=.ok (.bl false) st/\oNe st V (.lst xs)=.ok (.bl false) st/\oEq st (.lst xs) V=.ok (.bl true) st/\oEq st V (.lst xs)=.ok (.bl true) st:=by
 have hp:Kk xs xs=true:=by have:=Q23 g; rwa [peq] at this
 have g2:Zq dep (.fro xs)=true:=g;rcases h with rfl | rfl | ⟨i,rfl,e⟩
 ·simp [oNe,oEq,der,g,peq,hp]
 ·simp [oNe,oEq,der,g,g2,peq,hp]
 ·simp [oNe,oEq,der,g,g2,peq,hp,e]
def Y7 (body:MS) (nl:Nat):FN:=fun ps st=>match body (ps.map some ++ List.replicate (nl - ps.length) none) st with
 | .rt v st'=>.ok v st'
 | .nx _ st'=>.ok .non st'
 | .exc x st'=>.exc x st'
 | _=>.stuck
variable {P:aN} {K:PySem.W.Frag} {base:Heap}
section
variable {w:aL}
theorem Qpu {x qual:Str} {st:aK} {f:aA} {ps:List Str} {k:Nat} {m:MS} (F:Fun K x qual st f fd) (S:FnScope N ps (Q7 st))
  (hb:∀ (B:aB) (A:aQ) (outer:List PySem.Env) (s:aC) (H:Hp) (E:XK),Room k (A.deeper (PyProof.Rows.envOfC qual (Q7 st) s.heap.objs.size f B))->SimB (cxD P w K mg base N qual (Q7 st) f B A outer s H E) E (Yc st) m) :
  FnOk P w K mg base (CXD P w) (k + 1) f fd ps (spF mg ps.length (Y7 m N.length)):=by
 refine Fun.okD F S (fun vs H Q E h=>h.1) fun B A outer s H vs Q E hr U=>⟨_,Q59,?_⟩
 obtain ⟨hl,ρ,O,J,R,rl,q⟩:=U;refine (hb B A outer s H E hr).run _ (L2.start N vs) H ρ O _ R (Q7r rl) ?_;unfold Y7 at q;cases I:m (J.map some ++ List.replicate (N.length - J.length) none) O with
 | rt v G=>rw [I] at q; exact fun v H' ρ' x Y r=>q H' ρ' x Y v r
 | nx Γ G=>rw [I] at q; exact fun a2 H' ρ' Z Y G'=>q H' ρ' Z Y .non rfl
 | bk Γ G=>rw [I] at q; exact q.elim
 | ct Γ G=>rw [I] at q; exact q.elim
 | stuck=>rw [I] at q; exact q.elim
 | exc y G=>rw [I] at q; exact q
end
theorem Qbe {P:aN} {w:aL} {mg:Str->Option aB} {base:Heap} {x qual:Str} {st:aK} {f:aA} {ps:List Str} {k nl:Nat} {m:MS} {FF:FN} (F:Fun K x qual st f fd) (S:FnScope N ps (Q7 st)) (G:ps.length=n) (B:N.length=nl) (I:FF=Y7 m nl)
  (J:∀ (q:aB) (A:aQ) (outer:List PySem.Env) (s:aC) (H:Hp) (E:XK),Room k (A.deeper (PyProof.Rows.envOfC qual (Q7 st) s.heap.objs.size f q))->SimB (cxD P w K mg base N qual (Q7 st) f q A outer s H E) E (Yc st) m) :
  FnOk P w K mg base (CXD P w) (k + 1) f fd ps (spF mg n FF):=by
 subst G; subst B; subst I;exact Qpu F S J
end Sm
namespace Sm
open PySem PySem.Spec PyProof.Rows L2
end Sm
namespace Sm
open PySem PySem.Spec L2
variable {p:PV} {v:V}
def Q1i (w:Str):V:=if w = "make" then .int 3 else if w = "lend" then .int 4 else if w = "use" then .int 3 else .non
structure PartsOk (P:aN) (w:aL) (K:PySem.W.Frag) (mg:Str->Option aB):Prop where
 ex:∃ (a:aA) (o:Obj) (es:Array DictEntry) (ep:Nat),mg "PARTS_OF_DEED" = some (.ref a)/\K.lookup a=some o/\o.cls=.type "dict" /\ o.ExactDict/\o.data=.dict es ep/\KeysOf (Qx P w) es/\(a == ai)=false/\∀ x,RelV (Q1i x) ((findBy (Qx P w).is es (.inr x)).getD .none)
def Q61 (m:ME):ME:=fun Γ st=>(m Γ st).bind fun p st1=>match p with
 | .str x=>if x = "make" then .ok (.int 3) st1 else if x = "lend" then .ok (.int 4) st1 else if x = "use" then .ok (.int 3) st1 else .ok .non st1
 | _=>.stuck
variable {X:Cx} {E:XK} {pos:Pos} {e:aD} {m:ME}
theorem Qhn {p apos cpos:Pos} (PO:PartsOk X.prog X.w X.K X.mg) (hg:Gl X "PARTS_OF_DEED") (Z:SimE X E e m)
  (base:ak (.Name "PARTS_OF_DEED" p) "get" X.env (aM (.Name "PARTS_OF_DEED" p) X.env)=aM (.Name "PARTS_OF_DEED" p) X.env:=by rfl)
  (few:((aU cpos (aO [e] X.env)).all (fun x=>!x.1) && (backToKw cpos (keywordEach [] X.env)).all (fun x=>x.1.isSome)
   && decide (([e]:List aD).length + ([]:List Keyword).length + (if ([]:List Keyword).isEmpty then 0 else 1) < 30))=true:=by rfl)
  (line:(apos.endLine == cpos.line)=true:=by rfl) (trees:aU cpos (aO [e] X.env)=[(false,aM e X.env)]:=by rfl) :
  SimE X E (.Call (.Attribute (.Name "PARTS_OF_DEED" p) "get" apos) [e] [] cpos) (Q61 m):=by
 obtain ⟨a,o,es,ep,pm,pl,pt,pe,pd,Y,ps,U⟩:=PO.ex;refine ⟨fun Γ σ H ρ st Q R G h=>WE.of (Qai (val:=Q1i) hg pm pl pt pe pd Y ps U Yi (by decide) base few line trees) (Z.use R G h.bind fun q B H1 ρ1 v x1 O G1 r1 h1=>?_)⟩;cases q with
 | str x=>
  cases r1;have h1:Acc X.mg E H1 ρ1 (QV Q) (if x = "make" then .ok (.int 3) B else if x = "lend" then .ok (.int 4) B else if x = "use" then .ok (.int 3) B else .ok .non B):=h1
  by_cases a1:x = "make"
  ·rw [bN a1] at h1;exact ⟨x,rfl,by unfold Q1i; rw [bN a1]; exact now O h1 rfl⟩
  ·rw [bO a1] at h1
   by_cases I:x = "lend"
   ·rw [bN I] at h1;exact ⟨x,rfl,by unfold Q1i; rw [bO a1,bN I]; exact now O h1 rfl⟩
   ·rw [bO I] at h1
    by_cases J:x = "use"
    ·rw [bN J] at h1;exact ⟨x,rfl,by unfold Q1i; rw [bO a1,bO I,bN J]; exact now O h1 rfl⟩
    ·rw [bO J] at h1;exact ⟨x,rfl,by unfold Q1i; rw [bO a1,bO I,bO J]; exact now O h1 rfl⟩
 | _=>exact h1.elim
section
theorem Qir {P:aN} {w:aL} {K:PySem.W.Frag} {mg:Str->Option aB} {J:aA} {t1 t2 I G B q:Tok} {ep:Nat} (hm:mg "PARTS_OF_DEED" = some (.ref J))
  (lk:K.lookup J=some ⟨.type "dict",none,.dict #[⟨PyData.keyHash w.params "make",.str "make" t1,.int 3 G⟩,⟨PyData.keyHash w.params "lend",.str "lend" t2,.int 4 B⟩,⟨PyData.keyHash w.params "use",.str "use" I,.int 3 q⟩] ep,#[]⟩) (hp:(J == ai)=false):PartsOk P w K mg:=by
 refine ⟨J,_,_,_,hm,lk,rfl,⟨rfl,rfl,rfl⟩,rfl,fun e Z=>?_,hp,fun x=>?_⟩
 ·simp only [List.mem_toArray,D4,F6,or_false] at Z;rcases Z with rfl | rfl | rfl
  ·exact ⟨.inr "make",by simp [Qx,Kg,Value.isStrOf],rfl⟩
  ·exact ⟨.inr "lend",by simp [Qx,Kg,Value.isStrOf],rfl⟩
  ·exact ⟨.inr "use",by simp [Qx,Kg,Value.isStrOf],rfl⟩
 ·unfold Q1i
  by_cases e1:x = "make"
  ·rw [bN e1]; subst e1;have:findBy (Qx P w).is #[⟨PyData.keyHash w.params "make",.str "make" t1,.int 3 G⟩,⟨PyData.keyHash w.params "lend",.str "lend" t2,.int 4 B⟩,⟨PyData.keyHash w.params "use",.str "use" I,.int 3 q⟩] (.inr "make")=some (.int 3 G):=by first | rfl | decide +kernel
   rw [this]; exact ⟨_,rfl⟩
  ·rw [bO e1]
   by_cases e2:x = "lend"
   ·rw [bN e2]; subst e2;have:findBy (Qx P w).is #[⟨PyData.keyHash w.params "make",.str "make" t1,.int 3 G⟩,⟨PyData.keyHash w.params "lend",.str "lend" t2,.int 4 B⟩,⟨PyData.keyHash w.params "use",.str "use" I,.int 3 q⟩] (.inr "lend")=some (.int 4 B):=by first | rfl | decide +kernel
    rw [this]; exact ⟨_,rfl⟩
   ·rw [bO e2]
    by_cases e3:x = "use"
    ·rw [bN e3]; subst e3;have:findBy (Qx P w).is #[⟨PyData.keyHash w.params "make",.str "make" t1,.int 3 G⟩,⟨PyData.keyHash w.params "lend",.str "lend" t2,.int 4 B⟩,⟨PyData.keyHash w.params "use",.str "use" I,.int 3 q⟩] (.inr "use")=some (.int 3 q):=by first | rfl | decide +kernel
     rw [this]; exact ⟨_,rfl⟩
    ·rw [bO e3];have Y:¬ (Str.ofString "make" = x):=fun z=>e1 z.symm
     have U:¬ (Str.ofString "lend" = x):=fun z=>e2 z.symm
     have O:¬ (Str.ofString "use" = x):=fun z=>e3 z.symm
     have:findBy (Qx P w).is #[⟨PyData.keyHash w.params "make",.str "make" t1,.int 3 G⟩,⟨PyData.keyHash w.params "lend",.str "lend" t2,.int 4 B⟩,⟨PyData.keyHash w.params "use",.str "use" I,.int 3 q⟩] (.inr x)=none:=by
      simp [findBy,Qx,Kg,Value.isStrOf,Y,U,O]
     rw [this]; rfl
end
def Q3f (k1 k2 k3:Str) (p1 p2 p3:PV) (st4:Q1):PV->Res PV
 | .str x=>if x=k1 then .ok p1 st4 else if x=k2 then .ok p2 st4 else if x=k3 then .ok p3 st4 else .stuck
 | _=>.stuck
def Qb2 (k1 k2 k3:Str) (m1 m2 m3 mi:ME):ME:=fun Γ st=>(m1 Γ st).bind fun p1 st1=>(m2 Γ st1).bind fun p2 st2=>(m3 Γ st2).bind fun p3 st3=>(mi Γ st3).bind fun q st4=>Q3f k1 k2 k3 p1 p2 p3 st4 q
variable {dpos:Pos} {e1 e2 e3:aD} {m1 m2 m3 mi:ME} {k1 k2 k3:Str} {j1 j2 j3:Nat} {q1 q2 q3:Pos}
section
variable {i:aD}
theorem Qmw (hu:X.A.units + 1 < aa) (h1:SimE X E e1 m1) (h2:SimE X E e2 m2) (h3:SimE X E e3 m3) (hi:SimE X E i mi) (hs:Qqb i) (a8:k1≠k2:=by decide) (a9:k1≠k3:=by decide) (b4:k2≠k3:=by decide) :
  SimE X E (.Subscript (.Dict [some (.Constant (.str k1) j1 q1),some (.Constant (.str k2) j2 q2),some (.Constant (.str k3) j3 q3)] [e1,e2,e3] dpos) i pos) (Qb2 k1 k2 k3 m1 m2 m3 mi):=by
 refine ⟨fun Γ σ H ρ st Q R G h=>WE.of (Qdq hu (Qdp (zh qp Yi (zh qp Yi (zh qp Yi Qdn))) rfl rfl (by simp) (by simp)) Yi hs) ?_⟩;intro p hp;have x0:Ext H ρ (upd H p (.dK [])) (ρ.hide p):=Ext.hide hp;refine h1.use' (R.hide hp) (G.hide hp) (h.bind.later x0) fun a1 b7 H1 ρ1 Y f1 x1 R1 G1 r1 _=>?_
 have h:=h;unfold Qb2 at h;rw [f1] at h;have h:Acc X.mg E H ρ (QV Q) ((m2 Γ b7).bind fun p2 a7=>(m3 Γ a7).bind fun p3 J=>(mi Γ J).bind fun q B=>Q3f k1 k2 k3 a1 p2 p3 B q):=h
 refine h2.use' R1 G1 (h.bind.later (x0.trans x1)) fun a2 a7 H2 b8 U f2 x2 R2 G2 r2 _=>?_
 rw [f2] at h;have h:Acc X.mg E H ρ (QV Q) ((m3 Γ a7).bind fun p3 J=>(mi Γ J).bind fun q B=>Q3f k1 k2 k3 a1 a2 p3 B q):=h
 refine h3.use' R2 G2 (h.bind.later ((x0.trans x1).trans x2)) fun a3 J H3 a6 O f3 x3 R3 G3 r3 _=>?_
 rw [f3] at h;have h:Acc X.mg E H ρ (QV Q) ((mi Γ J).bind fun q B=>Q3f k1 k2 k3 a1 a2 a3 B q):=h
 have b0:Ext H ρ H3 a6:=((x0.trans x1).trans x2).trans x3;have xe:Ext (upd H p (.dK [])) (ρ.hide p) H3 a6:=(x1.trans x2).trans x3;have b5:p∉(ρ.hide p).tr:=fun z=>R.fresh hp (.inl z)
 have b6:H3 p=some (.dK []):=xe.keep p _ Qj b5;have I:p∈a6.hid:=xe.hidM p D5;refine ⟨b6,[(.inr k1,Y),(.inr k2,U),(.inr k3,O)],rfl,by simp,?_⟩;have hm:yu [] [((.inr k1:Key),Y),(.inr k2,U),(.inr k3,O)]=[(.inr k1,Y),(.inr k2,U),(.inr k3,O)]:=by
  simp [yu,Q72,a8,a9,b4]
 rw [hm];obtain ⟨o,ho⟩:∃ o:HO,o=.dK [(.inr k1,Y),(.inr k2,U),(.inr k3,O)]:=⟨_,rfl⟩;rw [<- ho];have y:Ext H ρ (upd H3 p o) a6:=b0.put0 hp;refine hi.use' (R3.rehide I (by intro _ z; rw [ho] at z; cases z)) (G3.rehide I) (h.bind.later y) fun q B H4 a4 v4 f4 x4 R4 G4 r4 _=>?_
 rw [f4] at h;have h:Acc X.mg E H ρ (QV Q) (Q3f k1 k2 k3 a1 a2 a3 B q):=h;have Z:Ext H ρ H4 a4:=y.trans x4;have a5:H4 p=some o:=x4.keep p _ Qj fun z=>R3.ap p I z
 have g1:Rep H4 a4 a1 Y:=(((r1.ext x2).ext x3).rehide I).ext x4;have g2:Rep H4 a4 a2 U:=((r2.ext x3).rehide I).ext x4;have g3:Rep H4 a4 a3 O:=(r3.rehide I).ext x4;cases q with
 | str x=>
  cases r4;have h:Acc X.mg E H ρ (QV Q) (if x=k1 then .ok a1 B else if x=k2 then .ok a2 B else if x=k3 then .ok a3 B else .stuck):=h;rw [ho] at a5
  by_cases b1:x=k1
  ·rw [bN b1] at h;refine ⟨p,Y,rfl,?_,h _ _ Z.unhide (R4.unhide Z.hidM) _ (g1.unhide Z.hidM)⟩;have:=DGet.k (k:=.inr x) a5
   rwa [show Kz [((.inr k1:Key),Y),(.inr k2,U),(.inr k3,O)] (.inr x)=some Y by rw [b1]; simp [Kz]] at this
  ·rw [bO b1] at h
   by_cases b2:x=k2
   ·rw [bN b2] at h;refine ⟨p,U,rfl,?_,h _ _ Z.unhide (R4.unhide Z.hidM) _ (g2.unhide Z.hidM)⟩;have:=DGet.k (k:=.inr x) a5
    rwa [show Kz [((.inr k1:Key),Y),(.inr k2,U),(.inr k3,O)] (.inr x)=some U by rw [b2]; simp [Kz,a8]] at this
   ·rw [bO b2] at h
    by_cases b3:x=k3
    ·rw [bN b3] at h;refine ⟨p,O,rfl,?_,h _ _ Z.unhide (R4.unhide Z.hidM) _ (g3.unhide Z.hidM)⟩;have:=DGet.k (k:=.inr x) a5
     rwa [show Kz [((.inr k1:Key),Y),(.inr k2,U),(.inr k3,O)] (.inr x)=some O by rw [b3]; simp [Kz,a9,b4]] at this
    ·rw [bO b3] at h; exact h.elim
 | _=>exact h.elim
end
def Q9b (x name:Str) (m:ME):MS:=fun Γ st=>(m Γ st).sbind fun p st1=>.exc ⟨x,some (name,p)⟩ st1
theorem Qeu {x name:Str} {C W f:aA} {fd:aP} {k:Nat} {ps:List Str} {np cpos:Pos} (q:X.calm=true) (RO:Q6u X E) (M:XMade X.K C W f) (GI:FnOk X.prog X.w X.K X.mg X.base CX0 k f fd ps (Q4y C name)) (hr:Room (k + 1) X.A)
  (hb:Binds X.K fd ps []) (hg:Gl X x) (O:X.mg x=some (.ref C)) (Z:SimE X E e m) (J:(x == ("__debug__" : Str))=false:=by decide) (B:aO [e] X.env=[(false,aM e X.env)]:=by rfl) :
  SimS X E (.Raise (some (.Call (.Name x np) [e] [] cpos)) none pos) (Q9b x name m):=
 ⟨fun Γ σ H ρ st D R G h=>WS.of (Qf8 q RO M GI hr hb hg O (Qu Yi Yg (by rw [B]; rfl)) J B) (Z.use R G h.bind fun p Y H1 ρ1 v x1 U G1 r1 h1=>
  ⟨v,rfl,fun dx I=>h1 C (some dx) _ ρ1 O (Ext.add I) (U.add I) ⟨dx,v,rfl,Qj,U.fresh I,r1.ext (Ext.add I)⟩⟩)⟩
@[simp] theorem Quw (m:ME) (Γ:Gam) (st:Q1):Q61 m Γ st=(m Γ st).bind fun p q=>(match p with
 | .str x=>if x = "make" then .ok (.int 3) q else if x = "lend" then .ok (.int 4) q else if x = "use" then .ok (.int 3) q else .ok .non q
 | _=>.stuck):=rfl
@[simp] theorem Qj5 (k1 k2 k3:Str) (m1 m2 m3 mi:ME) (Γ:Gam) (st:Q1):Qb2 k1 k2 k3 m1 m2 m3 mi Γ st=(m1 Γ st).bind fun U B=>(m2 Γ B).bind fun p2 J=>(m3 Γ J).bind fun O G=>(mi Γ G).bind fun q I=>Q3f k1 k2 k3 U p2 O I q:=rfl
@[simp] theorem Q2t (k1 k2 k3:Str) (G p2 B:PV) (q:Q1) (x:Str):Q3f k1 k2 k3 G p2 B q (.str x)=if x=k1 then .ok G q else if x=k2 then .ok p2 q else if x=k3 then .ok B q else .stuck:=rfl
@[simp] theorem Qti (x name:Str) (m:ME) (Γ:Gam) (st:Q1):Q9b x name m Γ st=(m Γ st).sbind fun p q=>.exc ⟨x,some (name,p)⟩ q:=rfl
theorem Qn0 {k:Nat} {A:aQ} (r:Room k A):A.units + 1 < aa:=by have:=r.un; omega
variable {H0 H:Hp} {ρ0 ρ:Tk} {st:Q1} {a:aA} {ps:List (Key × PV)} {vs:List (Key × V)}
theorem Qis (R0:Rel H0 ρ0 st) (x:Ext H0 ρ0 H ρ) {B:Q1} (R:Rel H ρ B) (I:a∈ρ.hid) (Y:H0 a=none) (ha:H a=some (.dK vs)) (r:RepD H ρ ps vs) :
  Ext H0 ρ0 H ⟨ρ.tr ++ [a],ρ0.hid⟩/\Rel H ⟨ρ.tr ++ [a],ρ0.hid⟩ (B ++ [.dic ps])/\Rep H ⟨ρ.tr ++ [a],ρ0.hid⟩ (.ref B.length) (.ref a):=by
 have O:a∉ρ0.hid:=fun z=>by
  obtain ⟨o,e,_⟩:=R0.hd a z;rw [Y] at e; cases e
 refine ⟨⟨x.pre.trans (List.prefix_append _ _),fun _ h=>h,fun _ h=>.inl h,x.keep,fun b G=>?_,x.old,x.frz⟩,⟨?_,?_,fun b G=>R.hd b (x.hidM b G),fun b G z=>?_,fun i b c h1 h2=>?_⟩,a,?_,rfl⟩
 ·rcases F1.mp G with z | z
  ·exact x.new b z
  ·have:b=a:=by simpa using z
   subst this; exact .inr Y
 ·show (ρ.tr ++ [a]).length=_;rw [O6,O6,R.len]; rfl
 ·show (ρ.tr ++ [a]).Nodup;refine List.nodup_append.mpr ⟨R.nd,by simp,fun b G c Z e=>?_⟩;have:c=a:=by simpa using Z
  subst this; subst e;exact R.ap b I G
 ·rcases F1.mp z with z | z
  ·exact R.ap b (x.hidM b G) z
  ·have:b=a:=by simpa using z
   subst this; exact O G
 ·have h1:(ρ.tr ++ [a])[i]?=some b:=h1
  by_cases hi:i < B.length
  ·rw [O3 (by rw [R.len]; exact hi)] at h1;rw [O3 hi] at h2;have q:=R.cell i b c h1 h2;cases c with
   | lst J=>
    obtain ⟨us,e1,e2⟩:=q;exact ⟨us,e1,e2.trk I x.hidM⟩
   | dic J=>
    obtain ⟨us,e1,e2⟩:=q;exact ⟨us,e1,e2.1,e2.2.trk I x.hidM⟩
   | dtp J=>
    obtain ⟨us,e1,e2⟩:=q;exact ⟨us,e1,e2.1,e2.2.trk I x.hidM⟩
   | frd J=>
    obtain ⟨us,e1,e2⟩:=q;exact ⟨us,e1,e2.1,e2.2.trk I x.hidM⟩
   | obj C J=>
    obtain ⟨us,e1,e2⟩:=q;exact ⟨us,e1,e2.1,e2.2.trk I x.hidM⟩
  ·rw [D0 (by rw [R.len]; omega)] at h1;rw [D0 (by omega)] at h2;have U:i - B.length=0:=by
    rcases Nat.eq_zero_or_pos (i - B.length) with z | z
    ·exact z
    ·rw [List.getElem?_eq_none (by simp; omega)] at h2; cases h2
   rw [R.len,U] at h1;rw [U] at h2;simp at h1 h2;subst h1; subst h2;exact ⟨vs,ha,r.1,r.2.trk I x.hidM⟩
 ·show (ρ.tr ++ [a])[B.length]?=some a;rw [<- R.len,D0 (O8 _),Nat.sub_self]; rfl
def Q11 (kvs:List (Key × PV)) (k:Key):Option PV:=(kvs.find? fun kv=>decide (kv.1=k)).map (·.2)
def Qjd:PV->Option Key
 | .int i=>some (.inl i)
 | .str x=>some (.inr x)
 | _=>none
theorem Qn1 {k:Key} (e:Qjd p=some k) (r:Rep H ρ p v):v=kV k:=by
 cases p with
 | int i=>cases e; exact r
 | str x=>cases e; exact r
 | _=>cases e
theorem Qac {H:Hp} {ρ:Tk}:∀ {kvs:List (Key × PV)} {vs:List (Key × V)},RepD H ρ kvs vs->∀ k:Key,(Q11 kvs k=none/\Kz vs k=none)\/∃ p v,Q11 kvs k=some p/\Kz vs k=some v/\Rep H ρ p v
 | [],[],_,k=>.inl ⟨rfl,rfl⟩
 | [],_ :: _,r,_=>by have:=r.length; cases this
 | _ :: _,[],r,_=>by have:=r.length; cases this
 | (k1,G) :: kvs,(k2,B) :: vs,r,k=>by
  obtain ⟨Y,v,t,e,I,U⟩:=r;have e1:k2=k1/\vs.map Prod.fst=kvs.map Prod.fst:=by
   have:k2 :: vs.map Prod.fst=k1 :: kvs.map Prod.fst:=Y;exact List.cons.inj this
  have e2:B :: vs.map Prod.snd=v :: t:=e;cases e2;obtain ⟨rfl,e3⟩:=e1
  by_cases q:k2=k
  ·exact .inr ⟨G,B,by simp [Q11,q],by simp [Kz,q],I⟩
  ·have O:=Qac (kvs:=kvs) (vs:=vs) ⟨e3,U⟩ k;have a1:Q11 ((k2,G) :: kvs) k=Q11 kvs k:=by simp [Q11,List.find?_cons,q]
   have J:Kz ((k2,B) :: vs) k=Kz vs k:=by simp [Kz,List.find?_cons,q]
   rw [a1,J]; exact O
variable {apos cpos:Pos} {o f:aD} {mo mf:ME}
section
variable {i:aD}
def Q9c (k1 k2 k3:Str) (m1 m2 m3:ME):ME:=fun Γ st=>(m1 Γ st).bind fun p1 st1=>(m2 Γ st1).bind fun p2 st2=>(m3 Γ st2).bind fun p3 st3=>.ok (.ref st3.length) (st3 ++ [.dic [(.inr k1,p1),(.inr k2,p2),(.inr k3,p3)]])
theorem Qhr (h1:SimE X E e1 m1) (h2:SimE X E e2 m2) (h3:SimE X E e3 m3) (a6:k1≠k2:=by decide) (a7:k1≠k3:=by decide) (a9:k2≠k3:=by decide) :
  SimE X E (.Dict [some (.Constant (.str k1) j1 q1),some (.Constant (.str k2) j2 q2),some (.Constant (.str k3) j3 q3)] [e1,e2,e3] dpos) (Q9c k1 k2 k3 m1 m2 m3):=by
 refine ⟨fun Γ σ H ρ st Q R G h=>WE.of (Qdp (zh qp Yi (zh qp Yi (zh qp Yi Qdn))) rfl rfl (by simp) (by simp)) ?_⟩;intro p hp;have x0:Ext H ρ (upd H p (.dK [])) (ρ.hide p):=Ext.hide hp;refine h1.use' (R.hide hp) (G.hide hp) (h.bind.later x0) fun a1 a8 H1 ρ1 U f1 x1 R1 G1 r1 _=>?_
 have h:=h;unfold Q9c at h;rw [f1] at h;have h:Acc X.mg E H ρ (QV Q) ((m2 Γ a8).bind fun p2 Y=>(m3 Γ Y).bind fun p3 q=>.ok (.ref q.length) (q ++ [.dic [(.inr k1,a1),(.inr k2,p2),(.inr k3,p3)]])):=h
 refine h2.use' R1 G1 (h.bind.later (x0.trans x1)) fun a2 Y H2 b0 O f2 x2 R2 G2 r2 _=>?_
 rw [f2] at h;have h:Acc X.mg E H ρ (QV Q) ((m3 Γ Y).bind fun p3 q=>.ok (.ref q.length) (q ++ [.dic [(.inr k1,a1),(.inr k2,a2),(.inr k3,p3)]])):=h
 refine h3.use' R2 G2 (h.bind.later ((x0.trans x1).trans x2)) fun a3 q H3 I J f3 x3 R3 G3 r3 _=>?_
 rw [f3] at h;have h:Acc X.mg E H ρ (QV Q) (.ok (.ref q.length) (q ++ [.dic [(.inr k1,a1),(.inr k2,a2),(.inr k3,a3)]])):=h;have Z:Ext H ρ H3 I:=((x0.trans x1).trans x2).trans x3;have xe:Ext (upd H p (.dK [])) (ρ.hide p) H3 I:=(x1.trans x2).trans x3;have a4:p∉(ρ.hide p).tr:=fun z=>R.fresh hp (.inl z)
 have a5:H3 p=some (.dK []):=xe.keep p _ Qj a4;have B:p∈I.hid:=xe.hidM p D5;refine ⟨a5,[(.inr k1,U),(.inr k2,O),(.inr k3,J)],rfl,by simp,?_⟩;have hm:yu [] [((.inr k1:Key),U),(.inr k2,O),(.inr k3,J)]=[(.inr k1,U),(.inr k2,O),(.inr k3,J)]:=by
  simp [yu,Q72,a6,a7,a9]
 rw [hm];have y:Ext H ρ (upd H3 p (.dK [(.inr k1,U),(.inr k2,O),(.inr k3,J)])) I:=Z.put0 hp;have g1:=((r1.ext x2).ext x3).rehide (o:=.dK [(.inr k1,U),(.inr k2,O),(.inr k3,J)]) B;have g2:=(r2.ext x3).rehide (o:=.dK [(.inr k1,U),(.inr k2,O),(.inr k3,J)]) B;have g3:=r3.rehide (o:=.dK [(.inr k1,U),(.inr k2,O),(.inr k3,J)]) B;obtain ⟨x5,R5,r5⟩:=Qis (ps:=[(.inr k1,a1),(.inr k2,a2),(.inr k3,a3)]) R y (R3.rehide B) B hp Qj ⟨rfl,RepL.cons g1 (RepL.cons g2 (RepL.cons g3 RepL.nil))⟩;exact h _ _ x5 R5 _ r5
@[simp] theorem Qfx (Γ:Gam) (st:Q1):Q9c k1 k2 k3 m1 m2 m3 Γ st=(m1 Γ st).bind fun J B=>(m2 Γ B).bind fun p2 G=>(m3 Γ G).bind fun I q=>.ok (.ref q.length) (q ++ [.dic [(.inr k1,J),(.inr k2,p2),(.inr k3,I)]]):=rfl
end
def Q8e (st:Q1):PV->Option (List (Key × PV))
 | .ref i=>match st[i]? with
  | some (.dic kvs)=>some kvs
  | some (.frd kvs)=>some kvs
  | _=>none
 | _=>none
theorem Qjy {kvs:List (Key × PV)} (R:Rel H ρ st) (r:Rep H ρ p v) (e:Q8e st p=some kvs):∃ i a vs,p=.ref i/\v=.ref a/\ρ.tr[i]?=some a/\Rd H a (.dK vs)/\RepD H ρ kvs vs:=by
 cases p with
 | ref i=>
  obtain ⟨a,G,rfl⟩:=r;unfold Q8e at e;cases z:st[i]? with
  | none=>simp only [z] at e; cases e
  | some c=>
   simp only [z] at e;cases c with
   | dic q=>
    cases e;obtain ⟨b,vs,B,I,rd⟩:=R.dic z;rw [G] at B;cases B;exact ⟨i,a,vs,rfl,rfl,G,.inl I,rd⟩
   | frd q=>
    cases e;obtain ⟨b,vs,o,B,I,rd⟩:=R.frd z;rw [G] at B;cases B;exact ⟨i,a,vs,rfl,rfl,G,.inr ⟨o,I⟩,rd⟩
   | lst xs=>cases e
   | dtp xs=>cases e
   | obj C xs=>cases e
 | _=>cases e
theorem DGet.kr {kvs:List (Key × V)} {k:Key} (e:Rd H a (.dK kvs)):DGet H a (kV k) (Kz kvs k):=.inl ⟨kvs,k,e,rfl,rfl⟩
variable {tpos:Pos}
section
variable {i k:aD} {mk:ME}
def Qzu (neg:Bool):OP:=fun st p q=>match Q8e st q,Qjd p with
 | some kvs,some k=>.ok (.bl ((Q11 kvs k).isSome != neg)) st
 | _,_=>.stuck
def Q3j (st:Q1) (p q:PV):Res PV:=match Q8e st p,Qjd q with
 | some kvs,some k=>match Q11 kvs k with
  | some v=>.ok v st
  | none=>.stuck
 | _,_=>.stuck
def Vj (mo mi:ME):ME:=fun Γ st=>(mo Γ st).bind fun p st1=>(mi Γ st1).bind fun q st2=>Q3j st2 p q
theorem Qhs (hu:X.A.units + 1 < aa) (I:SimE X E o mo) (hi:SimE X E i mi) (hs:Qqb i):SimE X E (.Subscript o i pos) (Vj mo mi):=
 ⟨fun Γ σ H ρ st Q R G h=>WE.of (Qdq hu Yi Yi hs) (I.use R G h.bind fun p O H1 ρ1 v1 x1 R1 J U h1=>hi.use R1 J h1.bind fun q a4 H2 Z v2 x2 R2 G2 r2 h2=>by
  unfold Q3j at h2
  split at h2
  ·rename_i kvs k e1 e2
   split at h2
   ·rename_i w e3;obtain ⟨n,a,vs,rfl,rfl,_,Y,rd⟩:=Qjy R2 (U.ext x2) e1;have ek:=Qn1 e2 r2;subst ek;rcases Qac rd k with ⟨a1,_⟩ | ⟨p,v,a1,B,a3⟩
    ·rw [a1] at e3; cases e3
    ·rw [a1] at e3;cases e3;exact ⟨a,v,rfl,by have:=DGet.kr (k:=k) Y; rwa [B] at this,now R2 h2 a3⟩
   ·exact h2.elim
  ·exact h2.elim)⟩
end
end Sm
namespace Sm
open PySem PySem.Spec PyProof.Rows L2
end Sm
namespace Sm
open PySem PySem.Spec L2
end Sm
namespace Sm
open PySem PySem.Spec PyProof.Rows L2
end Sm
namespace Sm
open PySem PySem.Spec L2 SeqAt
end Sm
namespace L2
open PySem PySem.Spec PyProof.Rows
end L2
namespace Sm
open PySem PySem.Spec PyProof.Rows L2
end Sm
namespace Sm
open PySem PySem.Spec L2
variable {κ:Type} {v:V} {F:FN}
structure DefX (P:aN) (w:aL) (K:PySem.W.Frag) (mg:Str->Option aB) (base:Heap) (k:Nat) (x:Str) (ps:List Str) (sp:Sp):Prop where
 ex:∃ (f:aA) (fd:aP),FnOk P w K mg base (CXD P w) k f fd ps sp/\mg x=some (.ref f)/\PySem.W.keepIn K (.ref f)=true/\Binds K fd ps []
theorem Wq {H0 H:Hp} (h:Same H0 H) {p:aA} {o:HO} (hp:H p=none):Same H0 (upd H p o):=fun b u e=>by
 have:=h b u e;rw [Qb fun z=>by rw [z,hp] at this; cases this]; exact this
structure Nms (mg:Str->Option aB) (c:Nat->aA):Prop where
 m0:mg "WharfError" = some (.ref (c 0))
 m1:mg "NoTable" = some (.ref (c 1))
 m2:mg "NoHouse" = some (.ref (c 2))
 m3:mg "NoDeed" = some (.ref (c 3))
 m4:mg "NoLetter" = some (.ref (c 4))
 m5:mg "NoStand" = some (.ref (c 5))
 m6:mg "NoRoad" = some (.ref (c 6))
 m7:mg "NoPlan" = some (.ref (c 7))
 m8:mg "NoBook" = some (.ref (c 8))
 m9:mg "NoManner" = some (.ref (c 9))
 m10:mg "TooMany" = some (.ref (c 10))
 m11:mg "NoText" = some (.ref (c 11))
 m12:mg "NoRow" = some (.ref (c 12))
 m13:mg "NoName" = some (.ref (c 13))
 m14:mg "Short" = some (.ref (c 14))
 ve:mg "ValueError" = none
 isi:mg "isinstance" = none
structure TgtS (K:PySem.W.Frag) (c:Nat->aA) (t:Nat):Prop where
 xc:XCls K (c t)
 ve:PySem.W.kitOne K (.ref (c t)) (.type "ValueError")=some true
 ex:PySem.W.exmOne K (.ref (c t)) (.ref (c 0))=some true
 k:∀ i,1<=i->i<=14->PySem.W.kitOne K (.ref (c t)) (.ref (c i))=some (decide (i=t))
theorem Q45:aZ "ValueError" = some (.type "ValueError"):=by decide +kernel
theorem Yv {H:Hp} {e p:aA} {v o:HO} (h:H e=some v) (hp:H p=none):upd H p o e=some v:=by
 rw [Qb fun z=>by rw [z,hp] at h; cases h]; exact h
theorem noB (bs:List Bool) (j:Nat) (h:(bs.take j).all (fun b=>!b)=true) (hl:j<=bs.length):∀ m,m < j->bs[m]?=some false:=fun m G=>by
 have B:m < bs.length:=by omega
 have:=G7.mp h (bs[m]) (List.mem_take_iff_getElem.mpr ⟨m,by omega,rfl⟩);rw [O5 B];cases q:bs[m] with
 | false=>rfl
 | true=>rw [q] at this; cases this
variable {X:Cx}
def Qqd (ss:List Str):TA:=fun σ H Q=>Q (ss.map V.str) H
theorem Qdt:∀ (l:List (Str × Nat × Pos)),PA X (l.map fun p=>Expr.Constant (.str p.1) p.2.1 p.2.2) (Qqd (l.map (·.1)))
 | []=>fun pos pins s σ H Q I h=>Yg pos pins s σ H Q I h
 | (x,j,p) :: l=>fun pos pins s σ H Q I h=>Qu (e:=.Constant (.str x) j p) qp (Qdt l) rfl pos pins s σ H Q I h
theorem Qak (q:List Str) (l:List (Nat × Pos)) {es:List aD} (h:es=(q.zip l).map (fun p=>Expr.Constant (.str p.1) p.2.1 p.2.2)) (hl:q.length=l.length:=by rfl):PA X es (Qqd q):=by
 have e:((q.zip l).map fun p=>((p.1,p.2.1,p.2.2):Str × Nat × Pos)).map (fun p=>Expr.Constant (.str p.1) p.2.1 p.2.2)=es:=by rw [h,L5]; rfl
 have e2:((q.zip l).map fun p=>((p.1,p.2.1,p.2.2):Str × Nat × Pos)).map (·.1)=q:=by
  rw [L5];show (q.zip l).map Prod.fst=q;exact List.map_fst_zip (by omega)
 have:=Qdt (X:=X) ((q.zip l).map fun p=>(p.1,p.2.1,p.2.2))
 rw [e,e2] at this;exact this
def zf (f:Str) (p:PV):List (Str × PV)->List (Str × PV)
 | []=>[(f,p)]
 | (g,x) :: r=>if g=f then (g,p) :: r else (g,x) :: zf f p r
variable {H:Hp} {ρ:Tk}
theorem Q7z {fs:List (κ × PV)} {vs:List (κ × V)} {g:κ} {x:PV}:RepD H ρ ((g,x) :: fs) vs->∃ v r,vs=(g,v) :: r/\Rep H ρ x v/\RepD H ρ fs r:=fun ⟨h1,h2⟩=>by
 cases vs with
 | nil=>cases h1
 | cons a r=>
  obtain ⟨k,v⟩:=a;simp only [F2,List.cons.injEq] at h1;obtain ⟨u,t,e,B,q⟩:=h2;cases e;exact ⟨v,r,by rw [h1.1],B,h1.2,q⟩
theorem Q2s {fs:List (κ × PV)} {vs:List (κ × V)} {g:κ} {x:PV} (h:Rep H ρ x v) (r:RepD H ρ fs vs):RepD H ρ ((g,x) :: fs) ((g,v) :: vs):=
 ⟨by simp only [F2,r.1],v,_,rfl,h,r.2⟩
theorem Q7y {f:Str} {p:PV} {v:V} (h:Rep H ρ p v):∀ {fs:List (Str × PV)} {vs:List (Str × V)},RepD H ρ fs vs->RepD H ρ (zf f p fs) (ym f v vs)
 | [],vs,r=>by
  have:vs=[]:=by have:=r.1; simpa using this
  subst this;exact Q2s h ⟨rfl,rfl⟩
 | (g,x) :: fs,vs,r=>by
  obtain ⟨u,t,rfl,G,B⟩:=Q7z r;rw [zf,ym]
  by_cases q:g=f
  ·rw [bN q,bN q]; exact Q2s h B
  ·rw [bO q,bO q]; exact Q2s G (Q7y h B)
theorem Q0t {f:Str}:∀ {fs:List (Str × PV)} {vs:List (Str × V)},RepD H ρ fs vs->(∀ p,fs.lookup f=some p->∃ v,vs.lookup f=some v/\Rep H ρ p v)/\(fs.lookup f=none->vs.lookup f=none)
 | [],vs,r=>by
  have:vs=[]:=by have:=r.1; simpa using this
  subst this;exact ⟨fun p e=>(by cases e),fun _=>rfl⟩
 | (g,x) :: fs,vs,r=>by
  obtain ⟨u,t,rfl,G,B⟩:=Q7z r;obtain ⟨i1,i2⟩:=Q0t (f:=f) B;rw [E2,E2];cases q:f == g with
  | true=>exact ⟨fun p e=>by cases e; exact ⟨u,rfl,G⟩,fun e=>(by cases e)⟩
  | false=>exact ⟨i1,i2⟩
def Q17 (C:aA) (st:Q1) (p:PV):Option (Nat × List (Str × PV)):=match p with
 | .ref i=>match st[i]? with
  | some (.obj C' fs)=>if C'=C then some (i,fs) else none
  | _=>none
 | _=>none
theorem Q26 {C:aA} {st:Q1} {p:PV} {i:Nat} {fs:List (Str × PV)} (R:Rel H ρ st) (r:Rep H ρ p v) (e:Q17 C st p=some (i,fs)):∃ a vs dx,p=.ref i/\v=.ref a/\ρ.tr[i]?=some a/\H a=some (.ins C dx vs)/\RepD H ρ fs vs:=by
 unfold Q17 at e
 split at e
 ·rename_i j
  split at e
  ·rename_i J fs' z
   split at e
   ·rename_i G;cases e;subst G;obtain ⟨a,q,rfl⟩:=r;obtain ⟨b,vs,dx,B,I,rd⟩:=R.obj z;rw [q] at B;cases B;exact ⟨a,vs,dx,rfl,rfl,q,I,rd⟩
   ·cases e
  ·cases e
 ·cases e
variable {E:XK} {o e:aD} {es:List aD} {mo m:ME} {mr:Gam->Q1->Res (List PV)} {C:aA} {f:Str} {pos pos' apos p:Pos}
def Vr (C:aA) (f:Str) (mo:ME):ME:=fun Γ st=>(mo Γ st).bind fun p st1=>match Q17 C st1 p with
 | some (_,fs)=>match fs.lookup f with
  | some q=>.ok q st1
  | none=>.stuck
 | none=>.stuck
theorem Qsb (cl:Cls X.K C) (n:NoAttr X.K C f) (Y:SimE X E o mo) (hb:ak o f X.env (aM o X.env)=aM o X.env:=by rfl):SimE X E (.Attribute o f pos) (Vr C f mo):=
 ⟨fun Γ σ H ρ st Q R G h=>WE.of (Qsv Yi hb) (Y.use R G h.bind fun p O H1 ρ1 v x1 B G1 r1 h1=>by
  split at h1
  ·rename_i i fs J
   split at h1
   ·rename_i q I;obtain ⟨a,vs,dx,rfl,rfl,ea,ha,rd⟩:=Q26 B r1 J;obtain ⟨u,U,Z⟩:=(Q0t rd).1 q I;exact ⟨a,C,dx,vs,u,rfl,ha,cl,n,U,now B h1 Z⟩
   ·exact h1.elim
  ·exact h1.elim)⟩
def zi (C:aA) (f:Str) (mo m:ME):MS:=fun Γ st=>(m Γ st).sbind fun p st1=>(mo Γ st1).sbind fun q st2=>match Q17 C st2 q with
 | some (i,fs)=>if fs.length < 1000 then .nx Γ (st2.set i (.obj C (zf f p fs))) else .stuck
 | none=>.stuck
theorem Qrv (cl:Cls X.K C) (n:NoAttr X.K C f) (he:SimE X E e m) (U:SimE X E o mo) (hs:swapsWith e (some (.Attribute o f pos')) pos.line X.env=pure false:=by rfl):SimS X E (.Assign [.Attribute o f pos'] e pos) (zi C f mo m):=
 ⟨fun Γ σ H ρ st D R G h=>WS.of (Qsk Yi Yi hs) (he.use R G h.bind fun p a2 H1 ρ1 z x1 R1 Z r1 h1=>U.use R1 Z h1.bind fun ov a3 H2 q x x2 R2 O r2 h2=>by
  split at h2
  ·rename_i i fs eo
   split at h2
   ·rename_i hl;obtain ⟨a,vs,dx,rfl,rfl,J,B,rd⟩:=Q26 R2 r2 eo;have Y:=D6 J;have I:Ext H2 q (upd H2 a (.ins C dx (ym f z vs))) q:=Ext.put Y B;refine ⟨a,C,dx,vs,rfl,B,cl,n,by rw [<- rd.length]; exact hl,h2 σ _ q I (R2.putC J B ⟨_,⟨dx,Qj⟩,?_⟩) (O.ext I)⟩;exact (Q7y (r1.ext x2) rd).ext I
   ·exact h2.elim
  ·exact h2.elim)⟩
structure MethS (P:aN) (w:aL) (K:PySem.W.Frag) (mg:Str->Option aB) (base:Heap) (k:Nat) (C:aA) (x:Str) (n:Nat) (F:FN):Prop where
 ex:∃ (f:aA) (fd:aP) (ps:List Str),FnOk P w K mg base (CXD P w) k f fd ps (spF mg n F)/\Meth K C x f/\Binds K fd ps []/\ps.length=n
def zj (C:aA) (x:Str) (n:Nat) (F:FN) (mo:ME) (mr:ML):ME:=fun Γ st=>(mo Γ st).bind fun p st1=>match Q17 C st1 p with
 | some (_,fs)=>if fs.lookup x=none then (mr Γ st1).bind fun ps st2=>if ps.length + 1=n then F (p :: ps) st2 else .stuck else .stuck
 | none=>.stuck
theorem Qmt {pl:Sem Bool} {k n:Nat} {x:Str} (cl:Cls X.K C) (D:MethS X.prog X.w X.K X.mg X.base k C x n F) (hr:Room k X.A) (hx:Ke (CXD X.prog X.w) X E) (ho:SimE X E o mo) (ha:SimA X E (e :: es) mr)
  (O:aO (e :: es) X.env=(false,aM e X.env) :: aO es X.env:=by rfl) (q:(aU pos (aO es X.env)).any (·.1)=false:=by rfl)
  (ht:aM (.Call (.Attribute o x apos) (e :: es) [] pos) X.env=(do
   let ov <- aM o X.env
   standAt apos.atName
   let (f,first) <- aj [ov] (getMethod ov x pl)
   callWith pos f first (aU pos (aO (e :: es) X.env)) (backToKw pos (keywordEach [] X.env))):=by rfl):SimE X E (.Call (.Attribute o x apos) (e :: es) [] pos) (zj C x n F mo mr):=by
 obtain ⟨f,fd,ps,hF,hm,hb,hl⟩:=D.ex;exact ⟨fun Γ σ H ρ st Q R G h=>WE.of (Qnk Yi cl hm hF hr hb .nil hx Q24 O q ht) (ho.use R G h.bind fun p a2 H1 ρ1 v x1 R1 G1 Y h1=>by
  split at h1
  ·rename_i i fs eo
   split at h1
   ·rename_i el;obtain ⟨a,vs,dx,rfl,rfl,ea,J,rd⟩:=Q26 R1 Y eo;refine ⟨a,dx,vs,rfl,J,(Q0t rd).2 el,?_⟩;refine ha.use R1 G1 h1.bind fun qs U H2 I us x2 R2 G2 Z h2=>?_
    by_cases B:qs.length + 1=n
    ·rw [bN B] at h2;show spF X.mg n F (.ref a :: (us ++ [])) H2 Q E;rw [G6];exact ⟨by rw [D7,<- Z.length]; exact B,I,U,_,R2,RepL.cons (Y.ext x2) Z,h2⟩
    ·rw [bO B] at h2; exact h2.elim
   ·exact h1.elim
  ·exact h1.elim)⟩
theorem Qhp {pl:Sem Bool} {k n:Nat} {x:Str} (cl:Cls X.K C) (D:MethS X.prog X.w X.K X.mg X.base k C x n F) (hr:Room k X.A) (hx:Ke (CXD X.prog X.w) X E) (Y:SimE X E o mo)
  (ht:aM (.Call (.Attribute o x apos) [] [] pos) X.env=(do
   let ov <- aM o X.env
   standAt apos.atName
   let (f,first) <- aj [ov] (getMethod ov x pl)
   callWith pos f first (aU pos (aO [] X.env)) (backToKw pos (keywordEach [] X.env))):=by rfl):SimE X E (.Call (.Attribute o x apos) [] [] pos) (zj C x n F mo Q4):=by
 obtain ⟨f,fd,ps,hF,Z,hb,hl⟩:=D.ex;exact ⟨fun Γ σ H ρ st Q R G h=>WE.of (Qij Yi cl Z hF hr hb .nil hx ht) (Y.use R G h.bind fun p q H1 ρ1 v x1 O G1 J h1=>by
  split at h1
  ·rename_i i fs eo
   split at h1
   ·rename_i U;obtain ⟨a,vs,dx,rfl,rfl,ea,I,rd⟩:=Q26 O J eo;refine ⟨a,dx,vs,rfl,I,(Q0t rd).2 U,?_⟩;have h1:Acc X.mg E H1 ρ1 (QV Q) (if ([]:List PV).length + 1=n then F [.ref i] q else .stuck):=h1
    by_cases B:([]:List PV).length + 1=n
    ·rw [bN B] at h1;show spF X.mg n F (.ref a :: ([] ++ [])) H1 Q E;exact ⟨B,ρ1,q,_,O,RepL.cons J RepL.nil,h1⟩
    ·rw [bO B] at h1; exact h1.elim
   ·exact h1.elim
  ·exact h1.elim)⟩
structure MakeS (P:aN) (w:aL) (K:PySem.W.Frag) (mg:Str->Option aB) (base:Heap) (k:Nat) (C:aA) (x:Str) (n:Nat) (F:FN):Prop where
 ex:∃ (f:aA) (fd:aP) (ps:List Str),FnOk P w K mg base (CXD P w) k f fd ps (spF mg n F)/\Mk K C f/\mg x=some (.ref C)/\Binds K fd ps []/\ps.length=n
def Qqt (C : aA) (n : Nat) (F : FN) (mr : ML) : ME := fun Γ st => (mr Γ st).bind fun ps st1 => if ps.length + 1 = n then (F (.ref st1.length :: ps) (st1 ++ [.obj C []])).bind fun v st2 => match v with
  | .non=>.ok (.ref st1.length) st2
  | _=>.stuck
 else .stuck
theorem Qmu {k n:Nat} {x:Str} (D:MakeS X.prog X.w X.K X.mg X.base k C x n F) (hr:Room (k + 1) X.A) (hx:Ke (CXD X.prog X.w) X E) (hg:Gl X x) (ha:SimA X E (e :: es) mr) (a3:(x == ("__debug__" : Str))=false:=by decide)
  (he:aO (e :: es) X.env=(false,aM e X.env) :: aO es X.env:=by rfl) (Y:(aU pos (aO es X.env)).any (·.1)=false:=by rfl):SimE X E (.Call (.Name x p) (e :: es) [] pos) (Qqt C n F mr):=by
 obtain ⟨f,fd,ps,hF,hm,hc,hb,hl⟩:=D.ex;exact ⟨fun Γ σ H ρ st Q R G h=>WE.of (Qnm hm hF hr hg hc hb .nil hx Q24 a3 he Y) (ha.use R G h.bind fun qs q H1 ρ1 us x1 R1 G1 r1 h1=>by
  intro y dx hy hd O
  by_cases hq:qs.length + 1=n
  ·rw [bN hq] at h1;have Z:Ext H1 ρ1 (upd H1 dx (.own y)) ρ1:=Ext.add hd;have I:(upd H1 dx (.own y)) y=none:=by rw [Qb (fun z=>O z.symm)]; exact hy
   have U:Ext (upd H1 dx (.own y)) ρ1 (upd (upd H1 dx (.own y)) y (.ins C dx [])) (ρ1.add y):=Ext.addT I;have R2:Rel (upd (upd H1 dx (.own y)) y (.ins C dx [])) (ρ1.add y) (q ++ [.obj C []]):=(R1.add hd).addC I ⟨[],⟨dx,Qj⟩,rfl,rfl⟩;have B:(ρ1.add y).tr[q.length]?=some y:=by
    show (ρ1.tr ++ [y])[q.length]?=some y;rw [<- R1.len,D0 (O8 _),Nat.sub_self]; rfl
   show spF X.mg n F (.ref y :: (us ++ [])) _ _ E;rw [G6];refine ⟨by rw [D7,<- r1.length]; exact hq,ρ1.add y,q ++ [.obj C []],.ref q.length :: qs,R2,RepL.cons ⟨y,B,rfl⟩ (r1.ext (Z.trans U)),?_⟩;cases er:F (.ref q.length :: qs) (q ++ [.obj C []]) with
   | stuck=>rw [er] at h1; exact h1.elim
   | exc z st'=>
    rw [er] at h1;exact fun C' dv H' ρ' m J R' xf=>h1 C' dv H' ρ' m ((Z.trans U).trans J) R' xf
   | ok v a4=>
    rw [er] at h1;intro H' ρ' J R' w a2;rw [Qs] at h1;cases v with
    | non=>
     refine ⟨a2,h1 H' ρ' ((Z.trans U).trans J) R' _ ⟨y,?_,rfl⟩⟩;obtain ⟨t,et⟩:=J.pre;rw [<- et,O3 (O0.mp B).1];exact B
    | _=>exact h1.elim
  ·rw [bO hq] at h1; exact h1.elim)⟩
@[simp] theorem Qpb (C:aA) (f:Str) (mo:ME) (Γ:Gam) (st:Q1):Vr C f mo Γ st=(mo Γ st).bind fun p B=>match Q17 C B p with
 | some (_,fs)=>match fs.lookup f with
  | some q=>.ok q B
  | none=>.stuck
 | none=>.stuck:=rfl
@[simp] theorem Qb0 (C:aA) (f:Str) (mo m:ME) (Γ:Gam) (st:Q1):zi C f mo m Γ st=(m Γ st).sbind fun p G=>(mo Γ G).sbind fun q B=>match Q17 C B q with
 | some (i,fs)=>if fs.length < 1000 then .nx Γ (B.set i (.obj C (zf f p fs))) else .stuck
 | none=>.stuck:=rfl
@[simp] theorem Qj4 (C:aA) (x:Str) (n:Nat) (F:FN) (mo:ME) (mr:ML) (Γ:Gam) (st:Q1):zj C x n F mo mr Γ st=(mo Γ st).bind fun p q=>match Q17 C q p with
 | some (_,fs)=>if fs.lookup x=none then (mr Γ q).bind fun ps B=>if ps.length + 1=n then F (p :: ps) B else .stuck else .stuck
 | none=>.stuck:=rfl
theorem Qgn:K1 X (.type "int") (fun xs H Q=>∃ b:Bool,xs=[.bl b]/\Q (.int (if b then 1 else 0)) H):=by
 intro pins s σ H xs us Q I r h;obtain ⟨b,rfl,q⟩:=h;obtain ⟨u,rfl,B⟩:=Q1w r;cases B;exact call_int_bool ⟨.int (if b then 1 else 0),H,I.tok _,⟨_,rfl⟩,q⟩
def Qbq:CF:=fun st ps=>match ps with
 | [.bl b]=>.ok (.int (if b then 1 else 0)) st
 | _=>.stuck
theorem Qq1:CallS X E (.type "int") Qbq:=⟨fun H ρ st ps xs Q R q h=>by
 unfold Qbq at h
 split at h
 ·obtain ⟨v,rfl,r⟩:=Wr q;cases r;exact WC.of Qgn ⟨_,rfl,now R h rfl⟩
 ·exact h.elim⟩
@[simp] theorem Qxm (st:Q1) (b:Bool):Qbq st [.bl b]=.ok (.int (if b then 1 else 0)) st:=rfl
def Q96 (x:Str):V:=if x = "keep" then .int 2 else if x = "fall" then .int 2 else if x = "send" then .int 2 else if x = "come" then .int 3 else .non
structure PartsO (P:aN) (w:aL) (K:PySem.W.Frag) (mg:Str->Option aB):Prop where
 ex:∃ (a:aA) (o:Obj) (es:Array DictEntry) (ep:Nat),mg "PARTS_OF_OTHER_DEED" = some (.ref a)/\K.lookup a=some o/\o.cls=.type "dict" /\ o.ExactDict/\o.data=.dict es ep/\KeysOf (Qx P w) es/\(a == ai)=false/\∀ x,RelV (Q96 x) ((findBy (Qx P w).is es (.inr x)).getD .none)
def Uz (m:ME):ME:=fun Γ st=>(m Γ st).bind fun p st1=>match p with
 | .str x=>if x = "keep" then .ok (.int 2) st1 else if x = "fall" then .ok (.int 2) st1 else if x = "send" then .ok (.int 2) st1 else if x = "come" then .ok (.int 3) st1 else .ok .non st1
 | _=>.stuck
theorem Qez {p apos cpos:Pos} (PO:PartsO X.prog X.w X.K X.mg) (hg:Gl X "PARTS_OF_OTHER_DEED") (he:SimE X E e m)
  (base:ak (.Name "PARTS_OF_OTHER_DEED" p) "get" X.env (aM (.Name "PARTS_OF_OTHER_DEED" p) X.env)=aM (.Name "PARTS_OF_OTHER_DEED" p) X.env:=by rfl)
  (few:((aU cpos (aO [e] X.env)).all (fun x=>!x.1) && (backToKw cpos (keywordEach [] X.env)).all (fun x=>x.1.isSome)
   && decide (([e]:List aD).length + ([]:List Keyword).length + (if ([]:List Keyword).isEmpty then 0 else 1) < 30))=true:=by rfl)
  (line:(apos.endLine == cpos.line)=true:=by rfl) (trees:aU cpos (aO [e] X.env)=[(false,aM e X.env)]:=by rfl) :
  SimE X E (.Call (.Attribute (.Name "PARTS_OF_OTHER_DEED" p) "get" apos) [e] [] cpos) (Uz m):=by
 obtain ⟨a,o,es,ep,pm,pl,pt,pe,pd,Z,ps,J⟩:=PO.ex;refine ⟨fun Γ σ H ρ st Q R G h=>WE.of (Qai (val:=Q96) hg pm pl pt pe pd Z ps J Yi (by decide) base few line trees) (he.use R G h.bind fun q B H1 ρ1 v x1 I G1 r1 h1=>?_)⟩;cases q with
 | str x=>
  cases r1;have h1:Acc X.mg E H1 ρ1 (QV Q) (if x = "keep" then .ok (.int 2) B else if x = "fall" then .ok (.int 2) B else if x = "send" then .ok (.int 2) B else if x = "come" then .ok (.int 3) B else .ok .non B):=h1;refine ⟨x,rfl,?_⟩;unfold Q96
  by_cases a1:x = "keep"
  ·rw [bN a1] at h1 ⊢; exact now I h1 rfl
  ·rw [bO a1] at h1 ⊢
   by_cases O:x = "fall"
   ·rw [bN O] at h1 ⊢; exact now I h1 rfl
   ·rw [bO O] at h1 ⊢
    by_cases U:x = "send"
    ·rw [bN U] at h1 ⊢; exact now I h1 rfl
    ·rw [bO U] at h1 ⊢
     by_cases Y:x = "come"
     ·rw [bN Y] at h1 ⊢; exact now I h1 rfl
     ·rw [bO Y] at h1 ⊢;exact now I h1 rfl
 | _=>exact h1.elim
section
theorem Qfg {P:aN} {w:aL} {K:PySem.W.Frag} {mg:Str->Option aB} {Y:aA} {t1 t2 O J I B q G:Tok} {ep:Nat} (hm:mg "PARTS_OF_OTHER_DEED" = some (.ref Y))
  (lk:K.lookup Y=some ⟨.type "dict",none,.dict #[⟨PyData.keyHash w.params "keep",.str "keep" t1,.int 2 I⟩,⟨PyData.keyHash w.params "fall",.str "fall" t2,.int 2 B⟩,⟨PyData.keyHash w.params "send",.str "send" O,.int 2 q⟩,⟨PyData.keyHash w.params "come",.str "come" J,.int 3 G⟩] ep,#[]⟩) (hp:(Y == ai)=false):PartsO P w K mg:=by
 refine ⟨Y,_,_,_,hm,lk,rfl,⟨rfl,rfl,rfl⟩,rfl,fun e he=>?_,hp,fun x=>?_⟩
 ·simp only [List.mem_toArray,D4,F6,or_false] at he;rcases he with rfl | rfl | rfl | rfl
  ·exact ⟨.inr "keep",by simp [Qx,Kg,Value.isStrOf],rfl⟩
  ·exact ⟨.inr "fall",by simp [Qx,Kg,Value.isStrOf],rfl⟩
  ·exact ⟨.inr "send",by simp [Qx,Kg,Value.isStrOf],rfl⟩
  ·exact ⟨.inr "come",by simp [Qx,Kg,Value.isStrOf],rfl⟩
 ·unfold Q96
  by_cases e1:x = "keep"
  ·rw [bN e1]; subst e1;have:findBy (Qx P w).is #[⟨PyData.keyHash w.params "keep",.str "keep" t1,.int 2 I⟩,⟨PyData.keyHash w.params "fall",.str "fall" t2,.int 2 B⟩,⟨PyData.keyHash w.params "send",.str "send" O,.int 2 q⟩,⟨PyData.keyHash w.params "come",.str "come" J,.int 3 G⟩] (.inr "keep")=some (.int 2 I):=by first | rfl | decide +kernel
   rw [this]; exact ⟨_,rfl⟩
  ·rw [bO e1]
   by_cases e2:x = "fall"
   ·rw [bN e2]; subst e2;have:findBy (Qx P w).is #[⟨PyData.keyHash w.params "keep",.str "keep" t1,.int 2 I⟩,⟨PyData.keyHash w.params "fall",.str "fall" t2,.int 2 B⟩,⟨PyData.keyHash w.params "send",.str "send" O,.int 2 q⟩,⟨PyData.keyHash w.params "come",.str "come" J,.int 3 G⟩] (.inr "fall")=some (.int 2 B):=by first | rfl | decide +kernel
    rw [this]; exact ⟨_,rfl⟩
   ·rw [bO e2]
    by_cases e3:x = "send"
    ·rw [bN e3]; subst e3;have:findBy (Qx P w).is #[⟨PyData.keyHash w.params "keep",.str "keep" t1,.int 2 I⟩,⟨PyData.keyHash w.params "fall",.str "fall" t2,.int 2 B⟩,⟨PyData.keyHash w.params "send",.str "send" O,.int 2 q⟩,⟨PyData.keyHash w.params "come",.str "come" J,.int 3 G⟩] (.inr "send")=some (.int 2 q):=by first | rfl | decide +kernel
     rw [this]; exact ⟨_,rfl⟩
    ·rw [bO e3]
     by_cases U:x = "come"
     ·rw [bN U]; subst U;have:findBy (Qx P w).is #[⟨PyData.keyHash w.params "keep",.str "keep" t1,.int 2 I⟩,⟨PyData.keyHash w.params "fall",.str "fall" t2,.int 2 B⟩,⟨PyData.keyHash w.params "send",.str "send" O,.int 2 q⟩,⟨PyData.keyHash w.params "come",.str "come" J,.int 3 G⟩] (.inr "come")=some (.int 3 G):=by first | rfl | decide +kernel
      rw [this]; exact ⟨_,rfl⟩
     ·rw [bO U];have a4:¬ (Str.ofString "keep" = x):=fun z=>e1 z.symm
      have a3:¬ (Str.ofString "fall" = x):=fun z=>e2 z.symm
      have a2:¬ (Str.ofString "send" = x):=fun z=>e3 z.symm
      have Z:¬ (Str.ofString "come" = x):=fun z=>U z.symm
      have:findBy (Qx P w).is #[⟨PyData.keyHash w.params "keep",.str "keep" t1,.int 2 I⟩,⟨PyData.keyHash w.params "fall",.str "fall" t2,.int 2 B⟩,⟨PyData.keyHash w.params "send",.str "send" O,.int 2 q⟩,⟨PyData.keyHash w.params "come",.str "come" J,.int 3 G⟩] (.inr x)=none:=by
       simp [findBy,Qx,Kg,Value.isStrOf,a4,a3,a2,Z]
      rw [this]; rfl
end
def Qaz (cn fld : Str) (i n : Nat) (F : FN) (mr : ML) : MS := fun Γ st => (mr Γ st).sbind fun ps st1 => if ps.length = n /\ i < Γ.length then (match F ps st1 with
  | .ok _ st2=>.nx Γ st2
  | .exc x st2=>if x.cls=cn then (match x.fs with | some (f,.int z)=>if f=fld then .rt (.int z) st2 else .stuck | _=>.stuck) else .stuck
  | .stuck=>.stuck) else .stuck
theorem Qdf {k n i:Nat} {g cn nm fld:Str} {CC:aA} {p cpos I np a3 apos B O pos:Pos} {mr:ML} (D:DefS X.prog X.w X.K X.mg X.base k g n F) (hr:Room k X.A) (ha:SimA X.nox E (e :: es) mr)
  (hN:X.N.Nodup) (U:X.mg cn=some (.ref CC)) (a9:PySem.W.exmOne X.K (.ref CC) (.ref CC)=some true) (b5:XGet X.K CC fld) (hi:X.N[i]?=some nm:=by rfl) (hk:X.env.scope.names.lookup nm=some .local:=by rfl)
  (q:∀ a,PSs (Us X a) [.Return (some (.Attribute (.Name nm a3) fld apos)) B] (Qrg (tXF X.K fld (Qre i))):=by exact fun _=>yn (Q5a (Qnj _ (pv _))))
  (hg:Gl X g:=by rfl) (b0:Gl X cn:=by rfl) (b1:∀ b,b∉X.ex:=by intro b z; exact absurd (show b∈([]:List aA) from z) (by simp)) (b4:X.stack=X.env :: X.outer:=by rfl) (b2:X.env.frame=some X.env.locals:=by rfl)
  (a8:(g == ("__debug__" : Str))=false:=by decide) (a2:(cn == ("__debug__" : Str))=false:=by decide) (he:aO (e :: es) X.env=(false,aM e X.env) :: aO es X.env:=by rfl) (a7:(aU cpos (aO es X.env)).any (·.1)=false:=by rfl)
  (b6:swapsWith (.Call (.Name g p) (e :: es) [] cpos) none I.line X.env=pure false:=by rfl) :
  SimS X E (.Try [.Expr (.Call (.Name g p) (e :: es) [] cpos) I] [.ExceptHandler (some (.Name cn np)) (some nm) [.Return (some (.Attribute (.Name nm a3) fld apos)) B] O] [] [] pos) (Qaz cn fld i n F mr):=by
 obtain ⟨f,fd,ps,hF,hm,b3,hb,hl⟩:=D.ex;exact ⟨fun Γ σ H ρ st D R G h=>WS.of (Qi9 hF hr hm b3 hb Q24 hN hi hk q U hg b0 b1 b4 b2 a8 a2 he a7 b6) (ha.use R G h.bind fun qs Z H1 ρ1 us x1 R1 G1 r1 h1=>by
  by_cases hq:qs.length=n/\i < Γ.length
  ·rw [bN hq] at h1;refine ⟨by rw [<- r1.length]; exact hq.1,ρ1,Z,qs,R1,r1,?_⟩;cases er:F qs Z with
   | stuck=>rw [er] at h1; exact h1.elim
   | ok v a4=>
    rw [er] at h1;exact fun H' ρ' x' R' w _=>h1 σ H' ρ' x' R' (G1.ext x')
   | exc x a4=>
    rw [er] at h1;have h2:AccS X.mg E D H1 ρ1 (if x.cls=cn then (match x.fs with | some (f,.int z)=>if f=fld then .rt (.int z) a4 else .stuck | _=>.stuck) else .stuck):=h1
    clear h1
    by_cases hc:x.cls=cn
    ·rw [bN hc] at h2
     split at h2
     ·rename_i f' z ef
      split at h2
      ·rename_i hf;subst hf;intro C dv H' ρ' Y x' R' xf;rw [hc,U] at Y;cases Y;rw [ef] at xf;obtain ⟨dx,v,rfl,a6,_,rv⟩:=xf;have rv:v=.int z:=rv;subst rv;refine ⟨CC,rfl,a9,fun a J=>?_⟩;have a5:i < σ.length:=by rw [<- G1.1]; exact hq.2
       refine ⟨.ref a,by rw [E3 a5],a,CC,dx,z,[(f',.int z)],rfl,Qj,by rw [Qb (Qe a6 J)]; exact a6,by simp [List.lookup],b5,?_⟩;exact h2 _ _ ρ' (x'.trans (Ext.add J)) (R'.add J) rfl
      ·exact h2.elim
     ·exact h2.elim
    ·rw [bO hc] at h2; exact h2.elim
  ·rw [bO hq] at h1; exact h1.elim)⟩
@[simp] theorem Qj2 (cn fld:Str) (i n:Nat) (F:FN) (mr:ML) (Γ:Gam) (st:Q1):Qaz cn fld i n F mr Γ st=(mr Γ st).sbind fun ps B=>if ps.length=n/\i < Γ.length then (match F ps B with
  | .ok _ q=>.nx Γ q
  | .exc x q=>if x.cls=cn then (match x.fs with | some (f,.int z)=>if f=fld then .rt (.int z) q else .stuck | _=>.stuck) else .stuck
  | .stuck=>.stuck) else .stuck:=rfl
end Sm
namespace Sm
open PySem PySem.Spec PyProof.Rows L2
variable {X:Cx} {E:XK}
theorem Qiv:OpR X (aW .FloorDiv) (rI (fun _ j=>0 < j/\j.natAbs.log2 < 8000) fun i j=>.int (i / j)):=opI fun i j _ _ _ _ _ B q=>by
 have h1:(0:Int) < j:=B.1;have h2:=B.2;refine floordiv_int (by omega) (by rw [Int.fdiv_eq_ediv_of_nonneg i (by omega)]; exact q) (.inl (PyProof.noPylong_of_log2 ?_));omega
def Qdx:OP:=fun st p q=>match p,q with
 | .int a,.int b=>if 0 < b/\b.natAbs.log2 < 8000 then .ok (.int (a / b)) st else .stuck
 | _,_=>.stuck
theorem Qns:OpS X E (aW .FloorDiv) Qdx:=⟨fun H ρ st p q x y Q R G B h=>by
 unfold Qdx at h
 split at h
 ·cases G; cases B
  split at h
  ·rename_i I;exact WO.of Qiv ⟨_,_,rfl,rfl,I,now R h rfl⟩
  ·exact h.elim
 ·exact h.elim⟩
theorem Qfn (st:Q1) (a:Int) (m:Nat) (h1:0 < m) (h2:m < 2 ^ 8000):Qdx st (.int a) (.int m)=.ok (.int (a / m)) st:=by
 show (if 0 < (m:Int)/\(m:Int).natAbs.log2 < 8000 then _ else _)=_;rw [bN ⟨by omega,by
  rw [Int.natAbs_natCast];exact (Nat.log2_lt (by omega)).mpr h2⟩]
end Sm
namespace Sm
open PySem PySem.Spec L2
variable {K:PySem.W.Frag} {mg:Str->Option aB} {st s:aK} {ps:List Str} {f C a:aA} {oc:aB} {P:aN} {fd:aP} {n:Nat} {F:FN} {ql:Str} {α:Type} {o:Obj}
def tgN:aD->List Str
 | .Name x _=>[x]
 | .Tuple es _ _=>es.flatMap fun e=>match e with
  | .Name x _=>[x]
  | _=>[]
 | _=>[]
def Q3m (N:List Str) (tg:aD) (cap:List (Option Nat)):List Str:=tgN tg ++ cap.filterMap fun o=>o.bind (N[·]?)
theorem Qwu {l:List Str} (h:decide l.Nodup=true):l.Nodup:=of_decide_eq_true h
structure KR (b:Bool):Prop where
 h:b=true
variable {X:Cx} {E:XK} {pos:Pos} {tg iter elt:aD} {ifs:List aD} {sc:Scope} {ga:GA} {mi:MI} {mt:MT} {me:ME} {px cpos:Pos}
section
variable {cap:List (Option Nat)} {i:Nat} {x:Str}
theorem Qhi (q:X.calm=true) (I:KR (compOkC X.N (Q3m X.N tg cap) sc X.env.scope cap)) (hs:∀ x,aw iter X.env x=pure x) (J:Q3p cap ga) (hi:SimI X E tg iter mi) (O:∀ cl C s0 H0 ex,SimG (V7 X (Q3m X.N tg cap) sc cl C s0 H0 ex) tg ga) (G:∀ cl C s0 H0 ex,SimE (V7 X (Q3m X.N tg cap) sc cl C s0 H0 ex) E0 elt me) (B:∀ cl C s0 H0 ex,SimTs (V7 X (Q3m X.N tg cap) sc cl C s0 H0 ex) ifs mt):SimN X E (.ListComp elt [⟨tg,iter,ifs,0⟩] sc pos) (Y3 cap ga mi mt me):=
 Qmi cap _ q hi O G B J rfl rfl I.h hs
theorem Qev (J:swapsWith (.ListComp elt [⟨tg,iter,ifs,0⟩] sc cpos) (some (.Name x px)) pos.line X.env=pure true) (G:X.N.Nodup) (q:X.calm=true) (I:X.N[i]?=some x) (Z:Loc X.env.scope x) (Y:KR (compOkC X.N (Q3m X.N tg cap) sc X.env.scope cap)) (hs:∀ x,aw iter X.env x=pure x) (B:X.fn x=true\/X.env.scope.names.lookup x=some .local) (hf:Q3p cap ga) (hi:SimI X E tg iter mi) (hg:∀ cl C s0 H0 ex,SimG (V7 X (Q3m X.N tg cap) sc cl C s0 H0 ex) tg ga) (U:∀ cl C s0 H0 ex,SimE (V7 X (Q3m X.N tg cap) sc cl C s0 H0 ex) E0 elt me) (O:∀ cl C s0 H0 ex,SimTs (V7 X (Q3m X.N tg cap) sc cl C s0 H0 ex) ifs mt):SimS X E (.Assign [.Name x px] (.ListComp elt [⟨tg,iter,ifs,0⟩] sc cpos) pos) (Qz i (Xh (Y3 cap ga mi mt me))):=
 Qhh cap _ i G q hi hg U O hf I Z J rfl rfl Y.h hs B
end
structure AtS (K:PySem.W.Frag) (mg:Str->Option aB) (name:Str) (st:aK) (ps:List Str) (f:aA) (fd:aP):Prop where
 F:Fun K name name st f fd
 m:mg name=some (.ref f)
 b:Binds K fd ps []
theorem Quk {h:Heap} {name:Str} {st:aK} {ps:List Str} {f:aA} {oc:aB} {O an:Option aA} {J:Array (Option aB)} {kV B I q ct:aB} (X:K.In h) (G:h.Ns aS mg)
  (a:PySem.W.nsIn K aS name=some (some (.ref f))) (l:K.lookup f=some ⟨oc,O,.func (PySem.W.fnOf name name (Wi st) (Yc st) (Q7 st) .none kV B I an q ct),J⟩) (c:PySem.W.codeIn K q name=true) (k:PySem.W.keepIn K (.ref f)=true)
  (b:∀ (kV B I:aB) (an:Option aA) (q ct:aB) (us:List aB),us.length=ps.length->bindArgs (PySem.W.fnOf name name (Wi st) (Yc st) (Q7 st) .none kV B I an q ct) ⟨us,[]⟩=pure (ps.zip us)) :
  AtS K mg name st ps f (PySem.W.fnOf name name (Wi st) (Yc st) (Q7 st) .none kV B I an q ct):=
 have F:=Qcz (st:=st) l c k
 ⟨F,PySem.W.mg_of X G a,F.binds b⟩
theorem AtS.def {w:aL} {base:Heap} {name:Str} {k:Nat} (a:AtS K mg name st ps f fd) (q:ps.length=n) (G:FnOk P w K mg base (CXD P w) k f fd ps (spF mg n F)):DefS P w K mg base k name n F:=
 ⟨f,fd,ps,G,a.m,a.F.kp,a.b,q⟩
theorem AtS.defX {w:aL} {base:Heap} {name:Str} {k:Nat} {sp:Sp} (a:AtS K mg name st ps f fd) (G:FnOk P w K mg base (CXD P w) k f fd ps sp):DefX P w K mg base k name ps sp:=⟨f,fd,G,a.m,a.F.kp,a.b⟩
def FL (K:PySem.W.Frag) (x ql:Str) (s:aK) (f:aA):Prop:=∃ (oc:aB) (od:Option aA) (kV dc pm:aB) (an:Option aA) (cd ct:aB) (sl:Array (Option aB)),K.lookup f=some ⟨oc,od,.func (PySem.W.fnOf x ql (Wi s) (Yc s) (Q7 s) .none kV dc pm an cd ct),sl⟩/\PySem.W.codeIn K cd ql=true/\PySem.W.keepIn K (.ref f)=true
theorem FL.fn {x:Str} (h:FL K x ql s f):∃ fd,Fun K x ql s f fd:=let ⟨_,_,_,_,_,_,_,_,_,l,c,k⟩:=h; ⟨_,Qcz l c k⟩
def FA (K:PySem.W.Frag) (x:Str) (s:aK) (f:aA):Prop:=PySem.W.nsIn K aS x=some (some (.ref f))/\FL K x x s f
theorem FA.mk {x:Str} {G an:Option aA} {sl:Array (Option aB)} {kV q B cd ct:aB} (a:PySem.W.nsIn K aS x=some (some (.ref f))) (l:K.lookup f=some ⟨oc,G,.func (PySem.W.fnOf x x (Wi s) (Yc s) (Q7 s) .none kV q B an cd ct),sl⟩) (c:PySem.W.codeIn K cd x=true) (k:PySem.W.keepIn K (.ref f)=true):FA K x s f:=⟨a,_,_,_,_,_,_,_,_,_,l,c,k⟩
def FM (K:PySem.W.Frag) (C:aA) (x ql:Str) (s:aK) (f:aA):Prop:=PySem.W.findIn K (.ref C) x=some (some (.ref f))/\PySem.W.isFn K (.ref f)=true/\FL K x ql s f
theorem ln1 {l:List α} (h:l.length=1):∃ a,l=[a]:=match l,h with | [_],_=>⟨_,rfl⟩
theorem ln2 {l:List α} (h:l.length=2):∃ a b,l=[a,b]:=match l,h with | [_,_],_=>⟨_,_,rfl⟩
theorem ln3 {l:List α} (h:l.length=3):∃ a b c,l=[a,b,c]:=match l,h with | [_,_,_],_=>⟨_,_,_,rfl⟩
theorem ln4 {l:List α} (h:l.length=4):∃ a b c d,l=[a,b,c,d]:=match l,h with | [_,_,_,_],_=>⟨_,_,_,_,rfl⟩
theorem ln5 {l:List α} (h:l.length=5):∃ a b c d e,l=[a,b,c,d,e]:=match l,h with | [_,_,_,_,_],_=>⟨_,_,_,_,_,rfl⟩
theorem ln6 {l:List α} (h:l.length=6):∃ a b c d e f,l=[a,b,c,d,e,f]:=match l,h with | [_,_,_,_,_,_],_=>⟨_,_,_,_,_,_,rfl⟩
theorem ln7 {l:List α} (h:l.length=7):∃ a b c d e f g,l=[a,b,c,d,e,f,g]:=match l,h with | [_,_,_,_,_,_,_],_=>⟨_,_,_,_,_,_,_,rfl⟩
theorem FL.bd {x:Str} {ps:List Str} (h:FL K x ql s f)
  (b:∀ (kV B G:aB) (an:Option aA) (q ct:aB) (us:List aB),us.length=ps.length->bindArgs (PySem.W.fnOf x ql (Wi s) (Yc s) (Q7 s) .none kV B G an q ct) ⟨us,[]⟩=pure (ps.zip us)):∃ fd,Fun K x ql s f fd/\Binds K fd ps []:=
 let ⟨_,F⟩:=h.fn
 ⟨_,F,F.binds b⟩
theorem Yr {h:Heap} {name:Str} (ps:List Str) (X:K.In h) (G:h.Ns aS mg) (a:FA K name st f)
  (b:∀ (kV I J:aB) (an:Option aA) (q ct:aB) (us:List aB),us.length=ps.length->bindArgs (PySem.W.fnOf name name (Wi st) (Yc st) (Q7 st) .none kV I J an q ct) ⟨us,[]⟩=pure (ps.zip us):=by
   intro _ _ _ _ _ _ us hl
   first | (obtain ⟨_,rfl⟩:=ln1 hl; rfl) | (obtain ⟨_,_,rfl⟩:=ln2 hl; rfl) | (obtain ⟨_,_,_,rfl⟩:=ln3 hl; rfl) | (obtain ⟨_,_,_,_,rfl⟩:=ln4 hl; rfl) | (obtain ⟨_,_,_,_,_,rfl⟩:=ln5 hl; rfl) | (obtain ⟨_,_,_,_,_,_,rfl⟩:=ln6 hl; rfl) | (obtain ⟨_,_,_,_,_,_,_,rfl⟩:=ln7 hl; rfl)):∃ fd,AtS K mg name st ps f fd:=
 let ⟨a,l⟩:=a
 let ⟨_,F,B⟩:=l.bd b
 ⟨_,F,PySem.W.mg_of X G a,B⟩
theorem FM.at {x:Str} (h:FM K C x ql s f) (ps:List Str)
  (b:∀ (kV B G:aB) (an:Option aA) (q ct:aB) (us:List aB),us.length=ps.length->bindArgs (PySem.W.fnOf x ql (Wi s) (Yc s) (Q7 s) .none kV B G an q ct) ⟨us,[]⟩=pure (ps.zip us):=by
   intro _ _ _ _ _ _ us hl
   first | (obtain ⟨_,rfl⟩:=ln1 hl; rfl) | (obtain ⟨_,_,rfl⟩:=ln2 hl; rfl) | (obtain ⟨_,_,_,rfl⟩:=ln3 hl; rfl)):∃ fd,Fun K x ql s f fd/\Binds K fd ps []:=h.2.2.bd b
theorem FM.mk {x:Str} {G an:Option aA} {sl:Array (Option aB)} {kV q B cd ct:aB} (a:PySem.W.findIn K (.ref C) x=some (some (.ref f))) (e:PySem.W.isFn K (.ref f)=true) (l:K.lookup f=some ⟨oc,G,.func (PySem.W.fnOf x ql (Wi s) (Yc s) (Q7 s) .none kV q B an cd ct),sl⟩) (c:PySem.W.codeIn K cd ql=true) (k:PySem.W.keepIn K (.ref f)=true):FM K C x ql s f:=⟨a,e,_,_,_,_,_,_,_,_,_,l,c,k⟩
theorem AtS.d {name:Str} {k:Nat} (a:AtS K mg name st ps f fd) (P:aN) (w:aL) (base:Heap) (q:ps.length=n) (G:FnOk P w K mg base (CXD P w) k f fd ps (spF mg n F)):DefS P w K mg base k name n F:=a.def q G
def noL (K:PySem.W.Frag):Bool:=K.all fun p=>match p.2.data with
 | .seq _ _=>(match p.2.cls with
  | .type n=>!(n == ("list" : Str))
  | _=>true)
 | _=>true
theorem Qcu (h:K.lookup a=some o):(a,o)∈K:=by
 induction K with
 | nil=>cases h
 | cons p K q=>
  obtain ⟨b,u⟩:=p;rw [E2] at h;cases e:a == b with
  | true=>
   rw [e] at h;have:a=b:=by simpa using e
   subst this;cases h;exact D5
  | false=>
   rw [e] at h;exact D1 _ (q h)
theorem Qte {its:Array aB} (q:noL K=true) (h:K.lookup a=some o) (B:o.cls=.type "list") (hd:o.data=.seq its n):False:=by
 have:=G7.mp q _ (Qcu h);simp [B,hd] at this
theorem Q7x {H:Hp} {ρ:Tk}:∀ ns:List Int,RepL H ρ (ns.map .int) (ns.map V.int)
 | []=>rfl
 | n :: ns=>⟨_,_,rfl,rfl,Q7x ns⟩
theorem Qn2 (H:Hp):Rel H Tk.nil []:=⟨rfl,List.nodup_nil,fun a h=>(by cases h),fun a h=>(by cases h),fun i a c h=>(by simp [Tk.nil] at h)⟩
def Q8y (K:PySem.W.Frag):Sp:=fun vs H Q _=>∃ (a:aA) (ns:List Int),vs=[.ref a]/\SqL K H a (ns.map V.int)/\ns.length<=63/\∀ H',Q (.bl true) H'
theorem Qpg {w:aL} {base:Heap} {CX:CXT} {k:Nat} {FL:FN} (O:noL K=true) (F:FnOk P w K mg base CX k f fd ps (spF mg 1 FL)) (q:∀ ns:List Int,ns.length<=63->∃ st',FL [.fro (ns.map .int)] []=.ok (.bl true) st'):FnOk P w K mg base CX k f fd ps (Q8y K):=F.imp fun vs H Q E ⟨a,ns,e,U,hl,J⟩=>by
 subst e;obtain ⟨st',B⟩:=q ns hl;have I:Rd H a (.lst (ns.map V.int)):=by
  rcases U with h | ⟨o,its,n,h1,h2,Y,G,_⟩
  ·exact h
  ·exact (Qte O h1 h2 G).elim
 refine ⟨rfl,Tk.nil,[],[.fro (ns.map .int)],Qn2 H,⟨_,_,rfl,⟨a,_,rfl,I,Tk.not_nil a,Q7x ns⟩,rfl⟩,?_⟩;rw [B];intro H' ρ' x R v r;have e:v=.bl true:=r;subst e;exact J H'
theorem Qk2 {w:aL} {H:Hp} {s:aC} {e:aB} {s':aC} (h:CXD P w [] H s (fun _ _ _=>False) e s'):False:=by
 obtain ⟨_,_,_,_,_,_,_,_,_,z⟩:=h;exact z
theorem walkS {l:PySem.W.OpenLaw} {k:Nat} {q:aN} {B:List Str} {Z:(Str->Option aB)->Heap->Prop} {I:aL->Heap->Prop} {d:DefRec} {K:Params->PySem.W.Frag} (O:l.most=some 63) (U:Room k callerA) (G:d.params.defaults=[])
  (Y:∀ (w:aL) (h:Heap),I w h->(K w.params).In h)
  (F:∀ (w:aL) (mg:Str->Option aB) (J:aA) (h:Heap),(K w.params).In h->h.Ns aS mg->mg d.name=some (.ref J) ->
   ∃ fd:aP,(∀ (s:aC) (u:aB),BindsTo s fd ⟨[u],[]⟩ [("script",u)])/\∀ base:Heap,(K w.params).In base->base.Ns aS mg->FnOk l.prog w (K w.params) mg base (CXD l.prog w) k J fd ["script"] (Q8y (K w.params))) :
  PySem.W.WalkO q B Z I l.row.toRowW d [] (fun f vs=>PySem.call f vs):=
 L2.walk_of (n:=63) (k:=k) (x := "script") (CX:=fun w=>CXD l.prog w) (sp:=fun w=>Q8y (K w.params)) O (by decide) G U Y F (fun _ _ a ns hl _ hS=>⟨a,ns,rfl,hS,hl,fun _=>rfl⟩) fun _ _ _ _ _ z=>Qk2 z
end Sm
namespace Lw
open PySem PySem.Spec L2 Sm
variable {f C:aA} {fd:aP} {c:Nat->aA} {b a M:Int} {α:Type} {n j Lr nl L:Nat} {tb:List (List Int)} {st S S1 S2 S':Q1} {ls:List Nat} {xs ps ys:List PV} {Γ:Gam} {r:SR} {m mo:ME} {v p:PV} {F:FN} {mr:ML} {ga:GA} {mi:MI}
def top (i:Nat):aK:=PySem.Challenge.pw_lendwharf_k18_runs_refused.main.body.getD i (.Pass ⟨0,0,0,0⟩)
abbrev Q90:aK:=top 0
abbrev Q1c:aK:=top 18
abbrev y3:aK:=top 19
abbrev Q57:aK:=top 22
abbrev Q1d:aK:=top 23
abbrev Q1e:aK:=top 24
abbrev Q53:aK:=top 25
abbrev V4:aK:=top 27
abbrev K5:aK:=top 28
abbrev y0:aK:=top 29
abbrev Q56:aK:=top 30
abbrev V5:aK:=top 33
abbrev Q2q:aK:=top 34
abbrev V3:aK:=top 35
abbrev qc:aK:=top 36
abbrev Q54:aK:=top 37
abbrev Qc8:aK:=top 38
abbrev Q06:aK:=top 40
abbrev U2:aK:=top 41
abbrev K3:aK:=top 42
abbrev Q1f:aK:=top 43
abbrev K4:aK:=top 44
abbrev Uu:aK:=top 45
abbrev jj:aK:=top 46
abbrev Uv:aK:=top 47
abbrev Uf:aK:=top 48
abbrev Xc:aK:=X2 (top 50) 0
abbrev yf:aK:=X2 (top 50) 1
abbrev yg:aK:=X2 (top 50) 2
abbrev Q08:aK:=X2 (top 50) 3
abbrev yh:aK:=X2 (top 50) 4
abbrev yi:aK:=X2 (top 50) 5
abbrev qj:aK:=X2 (top 50) 6
abbrev yj:aK:=X2 (top 50) 7
abbrev js:aK:=X2 (top 50) 8
abbrev qi:aK:=X2 (top 50) 9
abbrev ye:aK:=X2 (top 50) 10
abbrev K6:aK:=top 53
abbrev Ue:aK:=top 54
abbrev ji:aK:=top 55
abbrev K7:aK:=top 56
abbrev Q07:aK:=top 57
abbrev Q55:aK:=top 58
abbrev yc:aK:=top 60
abbrev y4:aK:=top 61
abbrev jq:aK:=top 62
abbrev qd:aK:=top 63
abbrev yd:aK:=top 64
abbrev qe:aK:=top 65
abbrev qg:aK:=top 66
abbrev y8:aK:=top 67
abbrev jm:aK:=top 68
abbrev jn:aK:=top 69
abbrev y6:aK:=top 70
abbrev jp:aK:=top 71
abbrev qf:aK:=top 72
abbrev jr:aK:=top 73
abbrev y9:aK:=top 74
abbrev qh:aK:=top 75
abbrev jk:aK:=top 76
abbrev Q1z:aK:=top 77
structure Txt (mg:Str->Option aB):Prop where
 b_all:mg "all" = none
 b_any:mg "any" = none
 b_bool:mg "bool" = none
 b_int:mg "int" = none
 b_isinstance:mg "isinstance" = none
 b_len:mg "len" = none
 b_max:mg "max" = none
 b_min:mg "min" = none
 b_range:mg "range" = none
 b_str:mg "str" = none
 b_sum:mg "sum" = none
 b_tuple:mg "tuple" = none
 b_zip:mg "zip" = none
 c_MOST_HOUSES:∃ t,mg "MOST_HOUSES" = some (.int 8 t)
structure ClsT (K:PySem.W.Frag) (C:aA):Prop where
 cl:Cls K C
 n_number:NoAttr K C "number"
 n_now:NoAttr K C "now"
 n_kept:NoAttr K C "kept"
def Qq3:aK->List aK
 | .ClassDef _ _ _ b _ _ _ _ _ _ _=>b
 | _=>[]
abbrev Q7u:aK:=(Qq3 (top 16)).getD 0 (.Pass ⟨0,0,0,0⟩)
structure ShortOk (K:PySem.W.Frag) (mg:Str->Option aB) (c0 cs fI:aA):Prop where
 m0:mg "WharfError" = some (.ref c0)
 ms:mg "Short" = some (.ref cs)
 M:XMade K cs c0 fI
 L:XCall K c0
 S:XSet K cs c0 "had"
structure ShortS (P:aN) (w:aL) (K:PySem.W.Frag) (mg:Str->Option aB) (base:Heap):Prop where
 ex:∃ (C W f:aA) (fd:aP),XMade K C W f/\FnOk P w K mg base CX0 1 f fd ["self", "had"] (Q4y C "had")/\Binds K fd ["self", "had"] []/\mg "Short" = some (.ref C)
local macro_rules | `(tactic| fail "m")=>`(tactic| with_reducible first | apply Q1b | apply j9 | apply Q52 | apply Qhq | apply Q4c | apply Q2p | apply Q4b | apply Qvr | apply Qc4 | apply Qvq | apply Qrr | apply Qmp | apply Qgb | apply Qga | apply Qjq | apply Qjp | apply Qhw | apply Qsd | apply Qf1 | apply Qqi | apply Qht | apply Qsc | apply Qhs | apply Qhr | apply Qmw | apply Qf0 | apply Qsb | apply Qmv | apply Qsa | apply Qs9 | apply Qmu | apply Qmt | apply Qhp | apply Qs8 | apply Qs7 | apply Qs6 | apply Qs5 | apply Qvp | apply Qhn | apply Qez | apply Qhm | apply Qc7 | apply Qs4 | apply Qs3 | apply Qs2 | apply Qs1 | apply Qhj | apply Qmn | apply Qex | apply Qew | apply Qs0 | apply Qrz | apply Qry | apply Qmh | apply Qmg | apply Qrw | apply Q8w | apply Qrv | apply Qru | apply Qqg | apply Qdg | apply Qhg | apply Qeu | apply Qrs | apply Qdf | apply Qa7 | apply Qhf | apply Qrq | apply Qc3 | apply Qmd | apply Qmc | apply Qrm | apply Qma | apply Qvm | apply Qrk | refine Qa8 (T := "int") (o:=Qbq) ?_ ?_ ?_ ?_ ?_ ?_ ?_ ?_ ?_ | refine Qa8 (T := "tuple") (o:=U5) ?_ ?_ ?_ ?_ ?_ ?_ ?_ ?_ ?_ | apply Qhu | apply Qhi | apply SimW.t)
local macro_rules | `(tactic| fail "o")=>`(tactic| first | (with_reducible first | apply Qu8 | apply Qu7 | apply Qq1 | apply Qu6 | apply Qu5 | apply Qu4 | apply Qu3 | apply Qk3 | apply Qt3 | apply Qt2 | apply Qns | apply Qwb | apply Qwa | apply Qw9 | apply Qw8 | apply Qw7 | apply Qt1 | apply Qt0 | apply Qw6 | apply Qiu | apply Qsz | apply Qsy))
local macro_rules | `(tactic| fail "r")=>`(tactic| first | rfl | assumption | decide | exact .inl rfl | exact .inr rfl | exact .inr (.inl rfl) | exact .inr (.inr rfl) | exact fun _=>rfl | exact fun _ _=>rfl | exact fun _ _ _=>rfl | exact ⟨by kernel_rfl⟩ | exact Q5p _ | exact Room.mono ‹_› (by decide) | exact Q0a | exact Qnp | exact PassesOwn.leaving | exact FnScope.nd ‹_› | exact Qwu (by kernel_rfl) | exact Qn0 ‹_› | exact Room.units ‹_› | exact Qi1 | with_unfolding_all rfl)
local macro_rules | `(tactic| fail "s")=>`(tactic| first | (with_reducible first | exact PySem.boot_len | exact Qkm | exact Qkk | exact Qgu | exact Qkj | exact Qr | exact Qki | exact Qkh | exact Qkg | exact Qkf | exact Qd6) | rfl | (fail "m" <;> fail "s") | (fail "o" <;> fail "r") | ((first | apply Qev | apply ss_compTA | apply Qrt) <;> fail "s") | fail "r" | (intro _ _ _ _ _; fail "s"))
local macro_rules | `(tactic| fail "k")=>`(tactic| (refine Q9j ‹_› ‹_› rfl rfl rfl ?_; fail "j"))
local macro_rules | `(tactic| fail "K")=>`(tactic| (refine Qbe ‹_› ‹_› rfl rfl rfl ?_; fail "j"))
local macro_rules | `(tactic| fail "j")=>`(tactic| (intros; rcases ‹Txt _› with ⟨_,_,_,_,_,_,_,_,_,_,_,_,_,⟨_,_⟩⟩; (try cases ‹ClsT _ _›); show SimB _ _ (_ :: _) _; fail "s"))
local macro_rules | `(tactic| fail "c")=>`(tactic| exact ⟨rfl,rfl,rfl,by decide +kernel,rfl,by decide +kernel,by decide +kernel⟩)
variable {P:aN} {K:PySem.W.Frag} {mg:Str->Option aB} {base:Heap}
section
variable {w:aL}
theorem Qse:FnScope ["self", "had"] ["self", "had"] (Q7 Q7u):=⟨rfl,rfl,rfl,by decide +kernel,rfl,by decide +kernel,by decide +kernel⟩
theorem Qny {I q:aA} (F:Fun K "__init__" "Short.__init__" Q7u f fd) (O:ShortOk K mg I q f):FnOk P w K mg base CX0 1 f fd ["self", "had"] (Q4y q "had"):=by
 refine F.ok Qse (fun vs H Q E h=>?_) (fun G A outer s H vs Q E U h=>?_)
 ·obtain ⟨x,v,rfl,_⟩:=h;rfl
 ·obtain ⟨x,v,rfl,B,J⟩:=h;refine ⟨_,zg (Qdm (Qig O.M O.L (by rfl) O.m0 (Qu (pv 0) (Qu qp Yg))))
   (yn (Qnb (fun b z=>absurd (show b∈([]:List aA) from z) (by simp)) O.S (pv 0) (pv 1))),?_⟩
  exact ⟨_,rfl,x,_,rfl,B,_,rfl,_,rfl,x,rfl,B,J⟩
end
section
variable {w:aL}
def Qgv:MS:=Zw
def Qes:MT:=(toB (mC (.bl true)))
def Qe3:MS:=(K2 Qes Qgv 100000)
def Q9z:FN:=Qh Qe3 1
theorem Qhv:FnScope ["k"] ["k"] (Q7 Q90):=⟨rfl,rfl,rfl,by decide +kernel,rfl,by decide +kernel,by decide +kernel⟩
theorem Qix (F:Fun K "_wall" "_wall" Q90 f fd) (T:Txt mg)   : FnOk P w K mg base (CXD P w) 1 f fd ["k"] (spF mg 1 Q9z):=by
 refine Q9j (k:=0) (m:=Qe3) F Qhv rfl rfl rfl fun q A outer s H E B=>?_
 exact (Q2p (Qa7 100000 PassesOwn.leaving (Qc3 Qqi) (Q2p Qdg)))
def Xf:MS:=(Jv (Q43 (Qb1 "int" (Q3 0)) (Qtk (Qb1 "bool" (Q3 0)))))
def Zr:FN:=Qh Xf 1
theorem Qan (F:Fun K "is_whole" "is_whole" Q1c f fd) (T:Txt mg)   : FnOk P w K mg base (CXD P w) 1 f fd ["thing"] (spF mg 1 Zr):=by
 have:FnScope ["thing"] ["thing"] (Q7 Q1c):=by fail "c"
 delta Zr Xf
 fail "k"
def yx:MS:=(Jv (Q43 (Qc 1 Zr (Q0 (Q3 0) Q4)) (xh (oI fun a b=>.bl (decide (a<=b))) (oI fun a b=>.bl (decide (a<=b))) (Q3 1) (Q3 0) (Q3 2))))
def Vw:FN:=Qh yx 3
theorem Q74 (F:Fun K "is_between" "is_between" y3 f fd) (T:Txt mg)  (q:DefS P w K mg base 1 "is_whole" 1 Zr):FnOk P w K mg base (CXD P w) 2 f fd ["thing", "least", "most"] (spF mg 3 Vw):=by
 have:FnScope ["thing", "least", "most"] ["thing", "least", "most"] (Q7 y3):=by fail "c"
 delta Vw yx
 fail "k"
def xr:ME:=(Q43 (Qc 1 Zr (Q0 (Q3 0) Q4)) (mOp (oI fun a b=>.bl (decide (b<=a))) (Q3 0) (mC (.int 0))))
def Q5x : MS := (Qf (Ye (Q3q (Xy (toB (Qb1 "tuple" (Q3 0)))) (toB (mOp oNe (Qw Zt (Q0 (Q3 0) Q4)) (mOp Yb (Q3 1) (mC (.int 1)))))) (Jv (mC (.bl false))) Zw)
  (Jv (Qw (xx fun ns=>.bl (ns.all id)) (Q0 (Xh (Y3 [none] (Qg 0) (Q03 (Q3 0)) Zg xr)) Q4))))
def zy:FN:=Qh Q5x 2
theorem Qfk (F:Fun K "is_row" "is_row" Q57 f fd) (T:Txt mg)  (q:DefS P w K mg base 1 "is_whole" 1 Zr):FnOk P w K mg base (CXD P w) 2 f fd ["thing", "n"] (spF mg 2 zy):=by
 have:FnScope ["thing", "n"] ["thing", "n"] (Q7 Q57):=by fail "c"
 delta zy Q5x xr
 fail "k"
def Ky:ME:=(Qc 2 zy (Q0 (Q3 0) (Q0 (Qw Zt (Q0 (Q3 1) Q4)) Q4)))
def Q1m : MS := (Qf (Ye (Q3q (Xy (toB (Qb1 "tuple" (Q3 0)))) (Xy (toB (xh (oI fun a b => .bl (decide (a <= b))) (oI fun a b => .bl (decide (a <= b))) (mC (.int 1)) (Qw Zt (Q0 (Q3 0) Q4)) (mC (.int 8)))))) (Jv (mC (.bl false))) Zw)
  (Jv (Qw (xx fun ns=>.bl (ns.all id)) (Q0 (Xh (Y3 [none,some 0] (Qg 0) (Q03 (Q3 0)) Zg Ky)) Q4))))
def Xr:FN:=Qh Q1m 1
theorem Qap (F:Fun K "is_table" "is_table" Q1d f fd) (T:Txt mg)  (q:DefS P w K mg base 2 "is_row" 2 zy):FnOk P w K mg base (CXD P w) 3 f fd ["thing"] (spF mg 1 Xr):=by
 have:FnScope ["thing"] ["thing"] (Q7 Q1d):=by fail "c"
 delta Xr Q1m Ky
 fail "k"
def Q1n:MS:=(Jv (Qc 3 Vw (Q0 (Q3 1) (Q0 (mC (.int 0)) (Q0 (mOp (oI fun a b=>.int (a - b)) (Qw Zt (Q0 (Q3 0) Q4)) (mC (.int 1))) Q4)))))
def Ze:FN:=Qh Q1n 2
theorem Qaq (F:Fun K "is_house" "is_house" Q1e f fd) (T:Txt mg)  (q:DefS P w K mg base 2 "is_between" 3 Vw):FnOk P w K mg base (CXD P w) 3 f fd ["table", "thing"] (spF mg 2 Ze):=by
 have:FnScope ["table", "thing"] ["table", "thing"] (Q7 Q1e):=by fail "c"
 delta Ze Q1n
 fail "k"
def xn:ME:=(mOp oIx (Q3 0) (Q3 1))
def Q5u : MS := (Qf (Ye (Xy (toB (Qc 2 Ze (Q0 (Q3 0) (Q0 (Q3 1) Q4))))) (Xi "NoHouse" (mC (.str "no house of this table"))) Zw)
  (Qf (Qz 2 (Qw (X6 fun ns=>some (.int ns.sum)) (Q0 (Xh (Y3 [none,some 1] (Qg 0) (Q03 (Q3 0)) Zg xn)) Q4)))
  (Qf (Qz 3 (mOp oIx (Q3 0) (Q3 1)))
  (Qf (Qz 4 (mOp (oI fun a b=>.int (a - b)) (Qw (X6 fun ns=>some (.int ns.sum)) (Q0 (Q3 3) Q4)) (mOp oIx (Q3 3) (Q3 1))))
  (Jv (mOp (oI fun a b=>.int (a - b)) (Q3 2) (Q3 4)))))))
def Vn:FN:=Qh Q5u 5
theorem Q81 (F:Fun K "rights" "rights" Q53 f fd) (T:Txt mg) (q:∃ C,mg "NoHouse" = some (.ref C)/\PySem.W.excIn K C Uj "ValueError.__new__" = true) (B:DefS P w K mg base 3 "is_house" 2 Ze):FnOk P w K mg base (CXD P w) 4 f fd ["table", "house"] (spF mg 2 Vn):=by
 obtain ⟨_,_,_⟩:=q;have:FnScope ["table", "house", "gained", "own", "spent"] ["table", "house"] (Q7 Q53):=by fail "c"
 delta Vn Q5u xn
 fail "k"
def V6:MS:=(Ye (toB (mOp oNe (Qw Zt (Q0 (Q3 0) Q4)) (Qw Zt (Q0 (Q3 1) Q4)))) (Xi "NoTable" (mC (.str "the tables have unlike numbers of houses"))) Zw)
def J4:FN:=Qh V6 2
theorem yr (F:Fun K "need_as_many_houses" "need_as_many_houses" V4 f fd) (T:Txt mg) (q:∃ C,mg "NoTable" = some (.ref C)/\PySem.W.excIn K C Uj "ValueError.__new__" = true)  : FnOk P w K mg base (CXD P w) 1 f fd ["one", "other"] (spF mg 2 J4):=by
 obtain ⟨_,_,_⟩:=q;have:FnScope ["one", "other"] ["one", "other"] (Q7 V4):=by fail "c"
 delta J4 V6
 fail "k"
def Vf:ME:=(mOp (oI fun a b=>.bl (decide (a<=b))) (Q3 0) (Q3 1))
def K9:MS:=(Jv (Qw (xx fun ns=>.bl (ns.all id)) (Q0 (Xh (Y3 [none,none] (Kh (Y5 (Qg 0) (Y5 (Qg 1) Ki))) (Q7i (Q0 (Q3 0) (Q0 (Q3 1) Q4))) Zg Vf)) Q4)))
def W3:FN:=Qh K9 2
theorem Q2x (F:Fun K "is_row_within" "is_row_within" K5 f fd) (T:Txt mg)   : FnOk P w K mg base (CXD P w) 1 f fd ["one", "other"] (spF mg 2 W3):=by
 have:FnScope ["one", "other"] ["one", "other"] (Q7 K5):=by fail "c"
 delta W3 K9 Vf
 fail "k"
def X3:ME:=(Qw Q3c (Q0 (Q3 0) (Q0 (Q3 1) Q4)))
def yw:MS:=(Jv (Qw U5 (Q0 (Xh (Y3 [none,none] (Kh (Y5 (Qg 0) (Y5 (Qg 1) Ki))) (Q7i (Q0 (Q3 0) (Q0 (Q3 1) Q4))) Zg X3)) Q4)))
def Vv:FN:=Qh yw 2
theorem Q73 (F:Fun K "joined_row" "joined_row" y0 f fd) (T:Txt mg)   : FnOk P w K mg base (CXD P w) 1 f fd ["one", "other"] (spF mg 2 Vv):=by
 have:FnScope ["one", "other"] ["one", "other"] (Q7 y0):=by fail "c"
 delta Vv yw X3
 fail "k"
def xq:ME:=(Qc 2 Vv (Q0 (Q3 0) (Q0 (Q3 1) Q4)))
def Q5w : MS := (Qf (Wd (Qc 2 J4 (Q0 (Q3 0) (Q0 (Q3 1) Q4))))
  (Jv (Qw U5 (Q0 (Xh (Y3 [none,none] (Kh (Y5 (Qg 0) (Y5 (Qg 1) Ki))) (Q7i (Q0 (Q3 0) (Q0 (Q3 1) Q4))) Zg xq)) Q4))))
def zx:FN:=Qh Q5w 2
theorem Qfj (F:Fun K "joined" "joined" Q56 f fd) (T:Txt mg)  (q:DefS P w K mg base 1 "need_as_many_houses" 2 J4) (B:DefS P w K mg base 1 "joined_row" 2 Vv):FnOk P w K mg base (CXD P w) 2 f fd ["one", "other"] (spF mg 2 zx):=by
 have:FnScope ["one", "other"] ["one", "other"] (Q7 Q56):=by fail "c"
 delta zx Q5w xq
 fail "k"
def Jw:ME:=(Qc 1 Zr (Q0 (Q3 0) Q4))
def J3 : MS := (Qf (Ye (Q3q (Xy (toB (Qb1 "tuple" (Q3 0)))) (Q3q (toB (mOp oEq (Qw Zt (Q0 (Q3 0) Q4)) (mC (.int 0)))) (Xy (toB (Qb1 "str" (mOp oIx (Q3 0) (mC (.int 0)))))))) (Jv (mC (.bl false))) Zw)
  (Jv (Qw (xx fun ns=>.bl (ns.all id)) (Q0 (Xh (Y3 [none] (Qg 0) (Q03 (mSl (Q3 0) (Wm (mC (.int 1))) Ym)) Zg Jw)) Q4))))
def Q9:FN:=Qh J3 1
theorem yt (F:Fun K "is_text_and_numbers" "is_text_and_numbers" V5 f fd) (T:Txt mg)  (q:DefS P w K mg base 1 "is_whole" 1 Zr):FnOk P w K mg base (CXD P w) 2 f fd ["thing"] (spF mg 1 Q9):=by
 have:FnScope ["thing"] ["thing"] (Q7 V5):=by fail "c"
 delta Q9 J3 Jw
 fail "k"
def Yz:MS:=(Jv (Q43 (Qc 1 Q9 (Q0 (Q3 0) Q4)) (Q43 (mOp oEq (Qw Zt (Q0 (Q3 0) Q4)) (Q61 (mOp oIx (Q3 0) (mC (.int 0))))) (mOp (oI fun a b=>.bl (decide (b<=a))) (mOp oIx (Q3 0) (xg (mC (.int 1)))) (mC (.int 1))))))
def Jd:FN:=Qh Yz 1
theorem Qcj (F:Fun K "is_deed" "is_deed" Q2q f fd) (T:Txt mg) (PK:PartsOk P w K mg)  (q:DefS P w K mg base 2 "is_text_and_numbers" 1 Q9):FnOk P w K mg base (CXD P w) 3 f fd ["thing"] (spF mg 1 Jd):=by
 have:FnScope ["thing"] ["thing"] (Q7 Q2q):=by fail "c"
 delta Jd Yz
 fail "k"
def J5:ME:=(Qc 2 Ze (Q0 (Q3 1) (Q0 (Q3 0) Q4)))
def Jt : MS := (Qf (Qz 2 (mSl (Q3 1) (Wm (mC (.int 1))) (Wm (xg (mC (.int 1))))))
  (Qf (Ye (Xy (toB (Qw (xx fun ns=>.bl (ns.all id)) (Q0 (Xh (Y3 [none,some 0] (Qg 0) (Q03 (Q3 2)) Zg J5)) Q4)))) (Xi "NoHouse" (mC (.str "no house of this table"))) Zw)
  (Ye (xz (toB (mOp oEq (mOp oIx (Q3 1) (mC (.int 0))) (mC (.str "lend")))) (toB (mOp oEq (mOp oIx (Q3 2) (mC (.int 0))) (mOp oIx (Q3 2) (mC (.int 1)))))) (Xi "NoHouse" (mC (.str "a house lends nothing to itself"))) Zw)))
def Qn:FN:=Qh Jt 3
theorem yq (F:Fun K "need_houses_of_deed" "need_houses_of_deed" V3 f fd) (T:Txt mg) (q:∃ C,mg "NoHouse" = some (.ref C)/\PySem.W.excIn K C Uj "ValueError.__new__" = true) (B:DefS P w K mg base 3 "is_house" 2 Ze):FnOk P w K mg base (CXD P w) 4 f fd ["table", "deed"] (spF mg 2 Qn):=by
 obtain ⟨_,_,_⟩:=q;have:FnScope ["table", "deed", "houses"] ["table", "deed"] (Q7 V3):=by fail "c"
 delta Qn Jt J5
 fail "k"
def Vi : MS := (Qf (Ye (toB (mOp oEq (mOp oIx (Q3 1) (mC (.int 0))) (mC (.str "make")))) (Jv (mOp oIx (Q3 1) (mC (.int 1)))) Zw)
  (Qf (Ye (toB (mOp oEq (mOp oIx (Q3 1) (mC (.int 0))) (mC (.str "lend")))) (Jv (mOp oIx (Q3 1) (mC (.int 2)))) Zw)
  (Jv (Qw Zt (Q0 (Q3 0) Q4)))))
def Yk:FN:=Qh Vi 2
theorem Q3s (F:Fun K "place_in_row" "place_in_row" qc f fd) (T:Txt mg)   : FnOk P w K mg base (CXD P w) 1 f fd ["table", "deed"] (spF mg 2 Yk):=by
 have:FnScope ["table", "deed"] ["table", "deed"] (Q7 qc):=by fail "c"
 delta Yk Vi
 fail "k"
def Q5v : MS := (Qf (Qz 4 (mOp oIx (Q3 0) (Q3 1)))
  (Qf (Qz 5 (mOp Yb (mOp Yb (mSl (Q3 4) Ym (Wm (Q3 2))) (Y2 (Q0 (mOp Yb (mOp oIx (Q3 4) (Q3 2)) (Q3 3)) Q4))) (mSl (Q3 4) (Wm (mOp Yb (Q3 2) (mC (.int 1)))) Ym)))
  (Jv (mOp Yb (mOp Yb (mSl (Q3 0) Ym (Wm (Q3 1))) (Y2 (Q0 (Q3 5) Q4))) (mSl (Q3 0) (Wm (mOp Yb (Q3 1) (mC (.int 1)))) Ym)))))
def zw:FN:=Qh Q5v 6
theorem Qfh (F:Fun K "raised" "raised" Q54 f fd) (T:Txt mg)   : FnOk P w K mg base (CXD P w) 1 f fd ["table", "house", "place", "k"] (spF mg 4 zw):=by
 have:FnScope ["table", "house", "place", "k", "row", "higher"] ["table", "house", "place", "k"] (Q7 Q54):=by fail "c"
 delta zw Q5v
 fail "k"
def Q5y : MS := (Qf (Ye (Xy (toB (Qc 1 Jd (Q0 (Q3 1) Q4)))) (Xi "NoDeed" (mC (.str "neither a making nor a lending nor a using of one right or more"))) Zw)
  (Qf (Wd (Qc 2 Qn (Q0 (Q3 0) (Q0 (Q3 1) Q4))))
  (Qf (Qz 2 (mOp oIx (Q3 1) (mC (.int 1))))
  (Qf (Qz 3 (mOp oIx (Q3 1) (xg (mC (.int 1)))))
  (Qf (Ye (toB (mOp oNe (mOp oIx (Q3 1) (mC (.int 0))) (mC (.str "make")))) (Qf (Qz 4 (Qc 2 Vn (Q0 (Q3 0) (Q0 (Q3 2) Q4))))
  (Ye (toB (mOp oLt (Q3 4) (Q3 3))) (Q9b "Short" "had" (Q3 4)) Zw)) Zw)
  (Jv (Qc 4 zw (Q0 (Q3 0) (Q0 (Q3 2) (Q0 (Qc 2 Yk (Q0 (Q3 0) (Q0 (Q3 1) Q4))) (Q0 (Q3 3) Q4)))))))))))
def Kf:FN:=Qh Q5y 5
theorem Qnz (F:Fun K "done" "done" Qc8 f fd) (T:Txt mg) (J:ShortS P w K mg base) (G:∃ C,mg "NoDeed" = some (.ref C)/\PySem.W.excIn K C Uj "ValueError.__new__" = true) (O:DefS P w K mg base 3 "is_deed" 1 Jd) (q:DefS P w K mg base 4 "need_houses_of_deed" 2 Qn) (B:DefS P w K mg base 4 "rights_tables" 2 Vn) (U:DefS P w K mg base 1 "raised" 4 zw) (I:DefS P w K mg base 1 "place_in_row" 2 Yk):FnOk P w K mg base (CXD P w) 5 f fd ["table", "deed"] (spF mg 2 Kf):=by
 obtain ⟨a2,a6,a7,Y,a4,a5,a3,Z⟩:=J.ex;obtain ⟨_,_,_⟩:=G;have:FnScope ["table", "deed", "house", "k", "had"] ["table", "deed"] (Q7 Qc8):=by fail "c"
 delta Kf Q5y
 fail "k"
def Q0f:MS:=(Jv (mOp (oI fun a b=>.bl (decide (b < a))) (mOp oIx (mOp oIx (Q3 0) (Q3 1)) (Q3 1)) (mC (.int 0))))
def Up:FN:=Qh Q0f 2
theorem Q97 (F:Fun K "made_some" "made_some" Q06 f fd) (T:Txt mg)   : FnOk P w K mg base (CXD P w) 1 f fd ["table", "house"] (spF mg 2 Up):=by
 have:FnScope ["table", "house"] ["table", "house"] (Q7 Q06):=by fail "c"
 delta Up Q0f
 fail "k"
def U4 : MS := (Qf (Qz 2 (mOp oIx (Q3 0) (Q3 1)))
  (Jv (mOp (oI fun a b=>.bl (decide (b < a))) (Qw (X6 fun ns=>some (.int ns.sum)) (Q0 (Q3 2) Q4)) (mOp oIx (Q3 2) (Q3 1)))))
def Ya:FN:=Qh U4 3
theorem Q0b (F:Fun K "lent_or_used_some" "lent_or_used_some" U2 f fd) (T:Txt mg)   : FnOk P w K mg base (CXD P w) 1 f fd ["table", "house"] (spF mg 2 Ya):=by
 have:FnScope ["table", "house", "row"] ["table", "house"] (Q7 U2):=by fail "c"
 delta Ya U4
 fail "k"
def Vc:ME:=(mOp (oI fun a b=>.bl (decide (b < a))) (mOp oIx (mOp oIx (Q3 2) (Q3 0)) (Q3 1)) (mC (.int 0)))
def V8:MT:=(toB (mOp oNe (Q3 0) (Q3 1)))
def K8:MS:=(Jv (Qw (xx fun ns=>.bl (ns.any id)) (Q0 (Xh (Y3 [none,some 1,some 0] (Qg 0) (Q03 (Q3 2)) V8 Vc)) Q4)))
def W2:FN:=Qh K8 3
theorem Q2v (F:Fun K "was_lent_some" "was_lent_some" K3 f fd) (T:Txt mg)   : FnOk P w K mg base (CXD P w) 1 f fd ["table", "house", "lenders"] (spF mg 3 W2):=by
 have:FnScope ["table", "house", "lenders"] ["table", "house", "lenders"] (Q7 K3):=by fail "c"
 delta W2 K8 V8 Vc
 fail "k"
def yy:MS:=(Jv (mOr (Qc 2 Up (Q0 (Q3 0) (Q0 (Q3 1) Q4))) (Qc 3 W2 (Q0 (Q3 0) (Q0 (Q3 1) (Q0 (Q3 2) Q4))))))
def Uk:FN:=Qh yy 3
theorem Qar (F:Fun K "has_root" "has_root" Q1f f fd) (T:Txt mg)  (B:DefS P w K mg base 1 "made_some" 2 Up) (q:DefS P w K mg base 1 "was_lent_some" 3 W2):FnOk P w K mg base (CXD P w) 2 f fd ["table", "house", "ahead"] (spF mg 3 Uk):=by
 have:FnScope ["table", "house", "ahead"] ["table", "house", "ahead"] (Q7 Q1f):=by fail "c"
 delta Uk yy
 fail "k"
def Ve:ME:=(Q3 0)
def W6:MT:=(toB (mOp (oIn true) (Q3 0) (Q3 1)))
def Vd:ME:=(Q3 0)
def V9:MT:=(toB (Qc 3 Uk (Q0 (Q3 1) (Q0 (Q3 0) (Q0 (Q3 2) Q4)))))
def Wa : MS := (Qf (Qz 3 (Xh (Y3 [none, some 1] (Qg 0) (Yj (Q0 (Qw Zt (Q0 (Q3 0) Q4)) Q4)) W6 Ve)))
  (Qf (Qz 4 (Xh (Y3 [none,some 0,some 1] (Qg 0) (Q03 (Q3 3)) V9 Vd)))
  (Qf (Wd (mBM Q0d (Q3 1) (Q0 (Q3 4) Q4)))
  (Qz 2 (mOp (oI fun a b=>.bl (decide (b < a))) (Qw Zt (Q0 (Q3 4) Q4)) (mC (.int 0)))))))
def Y6:MT:=(toB (Q3 2))
def Wu : MS := (Qf (Qz 1 (Q02 (jd Q4)))
  (Qf (Qz 2 (mC (.bl true)))
  (Qf (K2 Y6 Wa 100000)
  (Jv (Q3 1)))))
def Yp:FN:=Qh Wu 5
theorem Q2w (F:Fun K "rooted_houses" "rooted_houses" K4 f fd) (T:Txt mg)  (q:DefS P w K mg base 2 "has_root" 3 Uk):FnOk P w K mg base (CXD P w) 3 f fd ["table"] (spF mg 1 Yp):=by
 have:FnScope ["table", "roots", "grows", "others", "found"] ["table"] (Q7 K4):=by fail "c"
 delta Yp Wu Y6 Wa V9 Vd W6 Ve
 fail "k"
def Wh:ME:=(Q3 0)
def Yq:MT:=(toB (mOp (oIn true) (Q3 0) (Q3 1)))
def Wf:ME:=(Qc 2 Ya (Q0 (Q3 1) (Q0 (Q3 0) Q4)))
def Va : MS := (Qf (Qz 1 (Qc 1 Yp (Q0 (Q3 0) Q4)))
  (Qf (Qz 2 (Xh (Y3 [none,some 1] (Qg 0) (Yj (Q0 (Qw Zt (Q0 (Q3 0) Q4)) Q4)) Yq Wh)))
  (Qf (Ye (toB (Qw (xx fun ns=>.bl (ns.any id)) (Q0 (Xh (Y3 [none,some 0] (Qg 0) (Q03 (Q3 2)) Zg Wf)) Q4))) (Jv (Q3 2)) Zw)
  (Jv (Kv Q4)))))
def Y8:FN:=Qh Va 3
theorem Q1j (F:Fun K "rootless_houses" "rootless_houses" Uu f fd) (T:Txt mg)  (B:DefS P w K mg base 3 "rooted_houses" 1 Yp) (q:DefS P w K mg base 1 "lent_or_used_some" 2 Ya):FnOk P w K mg base (CXD P w) 4 f fd ["table"] (spF mg 1 Y8):=by
 have:FnScope ["table", "roots", "others"] ["table"] (Q7 Uu):=by fail "c"
 delta Y8 Va Wf Yq Wh
 fail "k"
def Ww:MS:=(Ye (toB (mOp oLt (Qc 2 Vn (Q0 (Q3 0) (Q0 (Q3 1) Q4))) (mC (.int 0)))) (Jv (Y2 (Q0 (mC (.str "short")) (Q0 (Q3 1) Q4)))) Zw)
def U7 : MS := (Qf (Q62 (Qg 1) (Yj (Q0 (Qw Zt (Q0 (Q3 0) Q4)) Q4)) Ww)
  (Qf (Qz 2 (Qc 1 Y8 (Q0 (Q3 0) Q4)))
  (Qf (Ye (toB (mOp (oI fun a b=>.bl (decide (b < a))) (Qw Zt (Q0 (Q3 2) Q4)) (mC (.int 0)))) (Jv (Y2 (Q0 (mC (.str "rootless")) (Q0 (Q3 2) Q4)))) Zw)
  (Jv (Y2 (Q0 (mC (.str "comes")) (Q0 (Qc 1 Yp (Q0 (Q3 0) Q4)) Q4)))))))
def Yt:FN:=Qh U7 3
theorem Q5f (F:Fun K "comes_about" "comes_about" jj f fd) (T:Txt mg)  (G:DefS P w K mg base 4 "rights_tables" 2 Vn) (q:DefS P w K mg base 4 "rootless_houses" 1 Y8) (B:DefS P w K mg base 3 "rooted_houses" 1 Yp):FnOk P w K mg base (CXD P w) 5 f fd ["table"] (spF mg 1 Yt):=by
 have:FnScope ["table", "house", "rootless"] ["table"] (Q7 jj):=by fail "c"
 delta Yt U7 Ww
 fail "k"
def Ux:MS:=(Jv (Q43 (Qc 1 Xr (Q0 (Q3 0) Q4)) (mOp oEq (mOp oIx (Qc 1 Yt (Q0 (Q3 0) Q4)) (mC (.int 0))) (mC (.str "comes")))))
def Yn:FN:=Qh Ux 1
theorem Q1k (F:Fun K "does_come_about" "does_come_about" Uv f fd) (T:Txt mg)  (B:DefS P w K mg base 3 "is_table" 1 Xr) (q:DefS P w K mg base 5 "comes_about" 1 Yt):FnOk P w K mg base (CXD P w) 6 f fd ["thing"] (spF mg 1 Yn):=by
 have:FnScope ["thing"] ["thing"] (Q7 Uv):=by fail "c"
 delta Yn Ux
 fail "k"
def Wn:MS:=(Ye (Xy (toB (Qc 1 Yn (Q0 (Q3 0) Q4)))) (Xi "NoTable" (mC (.str "no table that comes about"))) Zw)
def Je:FN:=Qh Wn 1
theorem Q15 (F:Fun K "need_comes_about" "need_comes_about" Uf f fd) (T:Txt mg) (B:∃ C,mg "NoTable" = some (.ref C)/\PySem.W.excIn K C Uj "ValueError.__new__" = true) (q:DefS P w K mg base 6 "does_come_about" 1 Yn):FnOk P w K mg base (CXD P w) 7 f fd ["thing"] (spF mg 1 Je):=by
 obtain ⟨_,_,_⟩:=B;have:FnScope ["thing"] ["thing"] (Q7 Uf):=by fail "c"
 delta Je Wn
 fail "k"
def Xg (C : aA) : MS := (Qf (Wd (Qc 1 Je (Q0 (Q3 2) Q4)))
  (Qf (Ye (Xy (toB (Qc 2 Ze (Q0 (Q3 2) (Q0 (Q3 1) Q4))))) (Xi "NoHouse" (mC (.str "no house of this table"))) Zw)
  (Qf (zi C "number" (Q3 0) (Q3 1))
  (Qf (zi C "now" (Q3 0) (Q3 2))
  (zi C "kept" (Q3 0) (Q3 2))))))
def Yh (C:aA):FN:=Y7 (Xg C) 3
theorem Q25 (F:Fun K "__init__" "House.__init__" Xc f fd) (T:Txt mg) (I:ClsT K C) (B:∃ C,mg "NoHouse" = some (.ref C)/\PySem.W.excIn K C Uj "ValueError.__new__" = true) (q:DefS P w K mg base 7 "need_comes_about" 1 Je) (G:DefS P w K mg base 3 "is_house" 2 Ze):FnOk P w K mg base (CXD P w) 8 f fd ["self", "number", "table"] (spF mg 3 (Yh C)):=by
 obtain ⟨_,_,_⟩:=B;have:FnScope ["self", "number", "table"] ["self", "number", "table"] (Q7 Xc):=by fail "c"
 delta Yh Xg
 fail "K"
def Kq (C:aA):MS:=(zi C "now" (Q3 0) (Qc 2 Kf (Q0 (Vr C "now" (Q3 0)) (Q0 (Y2 (Q0 (mC (.str "make")) (Q0 (Vr C "number" (Q3 0)) (Q0 (Q3 1) Q4)))) Q4))))
def Vx (C:aA):FN:=Y7 (Kq C) 2
theorem Q7c (F:Fun K "make" "House.make" yf f fd) (T:Txt mg) (B:ClsT K C)  (q:DefS P w K mg base 5 "done" 2 Kf):FnOk P w K mg base (CXD P w) 6 f fd ["self", "k"] (spF mg 2 (Vx C)):=by
 have:FnScope ["self", "k"] ["self", "k"] (Q7 yf):=by fail "c"
 delta Vx Kq
 fail "K"
def Kr (C:aA):MS:=(zi C "now" (Q3 0) (Qc 2 Kf (Q0 (Vr C "now" (Q3 0)) (Q0 (Y2 (Q0 (mC (.str "lend")) (Q0 (Vr C "number" (Q3 0)) (Q0 (Q3 1) (Q0 (Q3 2) Q4))))) Q4))))
def Vy (C:aA):FN:=Y7 (Kr C) 3
theorem Q7d (F:Fun K "lend" "House.lend" yg f fd) (T:Txt mg) (B:ClsT K C)  (q:DefS P w K mg base 5 "done" 2 Kf):FnOk P w K mg base (CXD P w) 6 f fd ["self", "to", "k"] (spF mg 3 (Vy C)):=by
 have:FnScope ["self", "to", "k"] ["self", "to", "k"] (Q7 yg):=by fail "c"
 delta Vy Kr
 fail "K"
def jc (C:aA):MS:=(zi C "now" (Q3 0) (Qc 2 Kf (Q0 (Vr C "now" (Q3 0)) (Q0 (Y2 (Q0 (mC (.str "use")) (Q0 (Vr C "number" (Q3 0)) (Q0 (Q3 1) Q4)))) Q4))))
def Uq (C:aA):FN:=Y7 (jc C) 2
theorem Q99 (F:Fun K "use" "House.use" Q08 f fd) (T:Txt mg) (B:ClsT K C)  (q:DefS P w K mg base 5 "done" 2 Kf):FnOk P w K mg base (CXD P w) 6 f fd ["self", "k"] (spF mg 2 (Uq C)):=by
 have:FnScope ["self", "k"] ["self", "k"] (Q7 Q08):=by fail "c"
 delta Uq jc
 fail "K"
def Ks (C:aA):MS:=(zi C "kept" (Q3 0) (Vr C "now" (Q3 0)))
def Vz (C:aA):FN:=Y7 (Ks C) 1
theorem Q7e (F:Fun K "keep" "House.keep" yh f fd) (T:Txt mg) (q:ClsT K C)   : FnOk P w K mg base (CXD P w) 1 f fd ["self"] (spF mg 1 (Vz C)):=by
 have:FnScope ["self"] ["self"] (Q7 yh):=by fail "c"
 delta Vz Ks
 fail "K"
def Kt (C:aA):MS:=(zi C "now" (Q3 0) (Vr C "kept" (Q3 0)))
def U0 (C:aA):FN:=Y7 (Kt C) 1
theorem Q7f (F:Fun K "fall" "House.fall" yi f fd) (T:Txt mg) (q:ClsT K C)   : FnOk P w K mg base (CXD P w) 1 f fd ["self"] (spF mg 1 (U0 C)):=by
 have:FnScope ["self"] ["self"] (Q7 yi):=by fail "c"
 delta U0 Kt
 fail "K"
def Uy (C:aA):MS:=(Jv (Vr C "kept" (Q3 0)))
def Yx (C:aA):FN:=Qh (Uy C) 1
theorem Q3z (F:Fun K "letter" "House.letter" qj f fd) (T:Txt mg) (q:ClsT K C)   : FnOk P w K mg base (CXD P w) 1 f fd ["self"] (spF mg 1 (Yx C)):=by
 have:FnScope ["self"] ["self"] (Q7 qj):=by fail "c"
 delta Yx Uy
 fail "k"
def Ku (C : aA) : MS := (Qf (Wd (Qc 2 J4 (Q0 (Vr C "now" (Q3 0)) (Q0 (Q3 1) Q4))))
  (Qf (Ye (Xy (toB (Qc 2 W3 (Q0 (mOp oIx (Q3 1) (Vr C "number" (Q3 0))) (Q0 (mOp oIx (Vr C "now" (Q3 0)) (Vr C "number" (Q3 0))) Q4))))) (Xi "NoLetter" (mC (.str "it tells more of this house than the house did"))) Zw)
  (zi C "now" (Q3 0) (Qc 2 zx (Q0 (Vr C "now" (Q3 0)) (Q0 (Q3 1) Q4))))))
def U1 (C:aA):FN:=Y7 (Ku C) 2
theorem Q7g (F:Fun K "come" "House.come" yj f fd) (T:Txt mg) (J:ClsT K C) (B:∃ C,mg "NoLetter" = some (.ref C)/\PySem.W.excIn K C Uj "ValueError.__new__" = true) (q:DefS P w K mg base 1 "need_as_many_houses" 2 J4) (G:DefS P w K mg base 1 "is_row_within" 2 W3) (I:DefS P w K mg base 2 "joined" 2 zx):FnOk P w K mg base (CXD P w) 3 f fd ["self", "table"] (spF mg 2 (U1 C)):=by
 obtain ⟨_,_,_⟩:=B;have:FnScope ["self", "table"] ["self", "table"] (Q7 yj):=by fail "c"
 delta U1 Ku
 fail "K"
def Xt (C:aA):MS:=(Jv (Vr C "now" (Q3 0)))
def V1 (C:aA):FN:=Qh (Xt C) 1
theorem Q5n (F:Fun K "table" "House.table" js f fd) (T:Txt mg) (q:ClsT K C)   : FnOk P w K mg base (CXD P w) 1 f fd ["self"] (spF mg 1 (V1 C)):=by
 have:FnScope ["self"] ["self"] (Q7 js):=by fail "c"
 delta V1 Xt
 fail "k"
def Q0g (C:aA):MS:=(Jv (Qc 2 Vn (Q0 (Vr C "now" (Q3 0)) (Q0 (Vr C "number" (Q3 0)) Q4))))
def j8 (C:aA):FN:=Qh (Q0g C) 1
theorem Q3y (F:Fun K "rights" "House.rights" qi f fd) (T:Txt mg) (B:ClsT K C)  (q:DefS P w K mg base 4 "rights_tables" 2 Vn):FnOk P w K mg base (CXD P w) 5 f fd ["self"] (spF mg 1 (j8 C)):=by
 have:FnScope ["self"] ["self"] (Q7 qi):=by fail "c"
 delta j8 Q0g
 fail "k"
def Q2a (C:aA):MS:=(Wd (Qc 1 Q9z (Q0 (mC (.int 0)) Q4)))
def Q2m (C:aA):FN:=Qh (Q2a C) 1
theorem Q6z:FnScope ["self"] ["self"] (Q7 ye):=⟨rfl,rfl,rfl,by decide +kernel,rfl,by decide +kernel,by decide +kernel⟩
theorem Q7b (F:Fun K "used" "House.used" ye f fd) (T:Txt mg) (I:ClsT K C)  (q:DefS P w K mg base 1 "_wall" 1 Q9z):FnOk P w K mg base (CXD P w) 2 f fd ["self"] (spF mg 1 (Q2m C)):=by
 refine Q9j (k:=1) (m:=(Q2a C)) F Q6z rfl rfl rfl fun B A outer s H E G=>?_
 exact (Q2p (Q8w (Q4b q (G.mono (by decide)) Q0a rfl (j9 Qhq Q52))))
def Jg:MS:=(Jv (Q43 (Qc 1 Q9 (Q0 (Q3 0) Q4)) (mOp oEq (Qw Zt (Q0 (Q3 0) Q4)) (Uz (mOp oIx (Q3 0) (mC (.int 0)))))))
def Qk:FN:=Qh Jg 1
theorem Q2y (F:Fun K "is_other_deed" "is_other_deed" K6 f fd) (T:Txt mg) (PO:PartsO P w K mg)  (q:DefS P w K mg base 2 "is_text_and_numbers" 1 Q9):FnOk P w K mg base (CXD P w) 3 f fd ["thing"] (spF mg 1 Qk):=by
 have:FnScope ["thing"] ["thing"] (Q7 K6):=by fail "c"
 delta Qk Jg
 fail "k"
def Qy:MS:=(Ye (toB (Qc 1 Jd (Q0 (Q3 2) Q4))) (Wd (Qc 2 Qn (Q0 (Q3 0) (Q0 (Q3 2) Q4)))) (Ye (Xy (toB (Qc 1 Qk (Q0 (Q3 2) Q4)))) (Xi "NoDeed" (mC (.str "a deed of no kind that runs have"))) (Ye (Xy (toB (Qc 2 Ze (Q0 (Q3 0) (Q0 (mOp oIx (Q3 2) (xg (mC (.int 1)))) Q4))))) (Xi "NoHouse" (mC (.str "no house of this run"))) (Ye (xz (toB (mOp oEq (mOp oIx (Q3 2) (mC (.int 0))) (mC (.str "come")))) (Xy (toB (xh (oI fun a b=>.bl (decide (a<=b))) oLt (mC (.int 0)) (mOp oIx (Q3 2) (mC (.int 1))) (Qw Zt (Q0 (Q3 1) Q4)))))) (Xi "NoLetter" (mC (.str "no letter of this number is put by so far"))) Zw))))
def Qm:FN:=Qh Qy 3
theorem Q14 (F:Fun K "need_deed_of_run" "need_deed_of_run" Ue f fd) (T:Txt mg) (J:∃ C,mg "NoDeed" = some (.ref C)/\PySem.W.excIn K C Uj "ValueError.__new__" = true) (G:∃ C,mg "NoHouse" = some (.ref C)/\PySem.W.excIn K C Uj "ValueError.__new__" = true) (B:∃ C,mg "NoLetter" = some (.ref C)/\PySem.W.excIn K C Uj "ValueError.__new__" = true) (U:DefS P w K mg base 3 "is_deed" 1 Jd) (q:DefS P w K mg base 4 "need_houses_of_deed" 2 Qn) (I:DefS P w K mg base 3 "is_other_deed" 1 Qk) (O:DefS P w K mg base 3 "is_house" 2 Ze):FnOk P w K mg base (CXD P w) 5 f fd ["table", "letters", "deed"] (spF mg 3 Qm):=by
 obtain ⟨_,_,_⟩:=J;obtain ⟨_,_,_⟩:=G;obtain ⟨_,_,_⟩:=B;have:FnScope ["table", "letters", "deed"] ["table", "letters", "deed"] (Q7 Ue):=by fail "c"
 delta Qm Qy
 fail "k"
def ju (C : aA) : MS := (Qf (Qz 2 (mOp oIx (Q3 0) (mOp oIx (Q3 1) (mC (.int 1)))))
  (Ye (toB (mOp oEq (mOp oIx (Q3 1) (mC (.int 0))) (mC (.str "make")))) (Wd (zj C "make" 2 (Vx C) (Q3 2) (Q0 (mOp oIx (Q3 1) (mC (.int 2))) Q4))) (Ye (toB (mOp oEq (mOp oIx (Q3 1) (mC (.int 0))) (mC (.str "lend")))) (Wd (zj C "lend" 3 (Vy C) (Q3 2) (Q0 (mOp oIx (Q3 1) (mC (.int 2))) (Q0 (mOp oIx (Q3 1) (mC (.int 3))) Q4)))) (Wd (zj C "use" 2 (Uq C) (Q3 2) (Q0 (mOp oIx (Q3 1) (mC (.int 2))) Q4))))))
def Ys (C:aA):FN:=Y7 (ju C) 3
theorem Q5e (F:Fun K "do_own_deed" "do_own_deed" ji f fd) (T:Txt mg) (I:ClsT K C)   (B:MethS P w K mg base 6 C "make" 2 (Vx C)) (q:MethS P w K mg base 6 C "lend" 3 (Vy C)) (G:MethS P w K mg base 6 C "use" 2 (Uq C)):FnOk P w K mg base (CXD P w) 7 f fd ["houses", "deed"] (spF mg 2 (Ys C)):=by
 have:FnScope ["houses", "deed", "house"] ["houses", "deed"] (Q7 ji):=by fail "c"
 delta Ys ju
 fail "K"
def W1 (C : aA) : MS := (Qf (Qz 3 (mOp oIx (Q3 0) (mOp oIx (Q3 2) (xg (mC (.int 1))))))
  (Ye (toB (mOp oEq (mOp oIx (Q3 2) (mC (.int 0))) (mC (.str "keep")))) (Wd (zj C "keep" 1 (Vz C) (Q3 3) Q4)) (Ye (toB (mOp oEq (mOp oIx (Q3 2) (mC (.int 0))) (mC (.str "fall")))) (Wd (zj C "fall" 1 (U0 C) (Q3 3) Q4)) (Ye (toB (mOp oEq (mOp oIx (Q3 2) (mC (.int 0))) (mC (.str "send")))) (Wd (mBM Ws (Q3 1) (Q0 (zj C "letter" 1 (Yx C) (Q3 3) Q4) Q4))) (Wd (zj C "come" 2 (U1 C) (Q3 3) (Q0 (mOp oIx (Q3 1) (mOp oIx (Q3 2) (mC (.int 1)))) Q4)))))))
def Wx (C:aA):FN:=Y7 (W1 C) 4
theorem Q2z (F:Fun K "do_other_deed" "do_other_deed" K7 f fd) (T:Txt mg) (J:ClsT K C)   (G:MethS P w K mg base 1 C "keep" 1 (Vz C)) (B:MethS P w K mg base 1 C "fall" 1 (U0 C)) (q:MethS P w K mg base 1 C "letter" 1 (Yx C)) (I:MethS P w K mg base 3 C "come" 2 (U1 C)):FnOk P w K mg base (CXD P w) 4 f fd ["houses", "letters", "deed"] (spF mg 3 (Wx C)):=by
 have:FnScope ["houses", "letters", "deed", "house"] ["houses", "letters", "deed"] (Q7 K7):=by fail "c"
 delta Wx W1
 fail "K"
def Xz (C : aA) : MS := (Qf (Ye (toB (Qc 1 Qk (Q0 (Q3 2) Q4))) (Qf (Wd (Qc 3 (Wx C) (Q0 (Q3 0) (Q0 (Q3 1) (Q0 (Q3 2) Q4)))))
  (Jv (mC (.str "done")))) Zw)
  (Qf (Qaz "Short" "had" 3 2 (Ys C) (Q0 (Q3 0) (Q0 (Q3 2) Q4)))
  (Jv (mC (.str "done")))))
def jh (C:aA):FN:=Y7 (Xz C) 4
theorem sc_answer_to:FnScope ["houses", "letters", "deed", "refusal"] ["houses", "letters", "deed"] (Q7 Q07):=⟨rfl,rfl,rfl,by decide +kernel,rfl,by decide +kernel,by decide +kernel⟩
theorem Q98 (F:Fun K "answer_to" "answer_to" Q07 f fd) (T:Txt mg) (TC:ClsT K C) (Y:∃ C,mg "Short" = some (.ref C)/\PySem.W.exmOne K (.ref C) (.ref C)=some true/\XGet K C "had")  (q:DefS P w K mg base 3 "is_other_deed" 1 Qk) (B:DefS P w K mg base 4 "do_other_deed" 3 (Wx C)) (G:DefS P w K mg base 7 "do_own_deed" 2 (Ys C)):FnOk P w K mg base (CXD P w) 8 f fd ["houses", "letters", "deed"] (spF mg 3 (jh C)):=by
 obtain ⟨cS,U,Z,O⟩:=Y;refine Qbe (k:=7) (m:=(Xz C)) F sc_answer_to rfl rfl rfl fun J A outer s H E I=>?_
 exact (Q4c (Qqg (Qc3 (Q4b q (I.mono (by decide)) Q0a rfl (j9 (Q1b 2) Q52))) (Q4c (Q8w (Q4b B (I.mono (by decide)) Q0a rfl (j9 (Q1b 0) (j9 (Q1b 1) (j9 (Q1b 2) Q52)))))
  (Q2p (Qc4 Qc7))) Qhw)
  (Q4c (Qdf G (I.mono (by decide)) (j9 (Q1b 0) (j9 (Q1b 2) Q52)) sc_answer_to.nd U Z O)
  (Q2p (Qc4 Qc7))))
def qy (C:aA):ME:=(Qqt C 3 (Yh C) (Q0 (Q3 0) (Q0 (Q3 1) Q4)))
def j6 (C : aA) : MS := (Qf (Wd (Qc 3 Qm (Q0 (Q3 0) (Q0 (Q3 3) (Q0 (Q3 5) Q4)))))
  (Wd (mBM Ws (Q3 4) (Q0 (Qc 3 (jh C) (Q0 (Q3 2) (Q0 (Q3 3) (Q0 (Q3 5) Q4)))) Q4))))
def Q1u (C:aA):ME:=(zj C "table" 1 (V1 C) (Q3 0) Q4)
def Q0e (C : aA) : MS := (Qf (Wd (Qc 1 Je (Q0 (Q3 0) Q4)))
  (Qf (Qz 2 (Xh (Y3 [none,some 0] (Qg 0) (Yj (Q0 (Qw Zt (Q0 (Q3 0) Q4)) Q4)) Zg (qy C))))
  (Qf (Qz 3 (Q02 (jd Q4)))
  (Qf (Qz 4 (Q02 (jd Q4)))
  (Qf (Q62 (Qg 5) (Q03 (Q3 1)) (j6 C))
  (Jv (Y2 (Q0 (Q3 4) (Q0 (Q02 (Y3 [none] (Qg 0) (Q03 (Q3 2)) Zg (Q1u C))) Q4)))))))))
def X8 (C:aA):FN:=Y7 (Q0e C) 6
theorem Qfi (F:Fun K "played" "played" Q55 f fd) (T:Txt mg) (O:ClsT K C)  (B:DefS P w K mg base 7 "need_comes_about" 1 Je) (q:DefS P w K mg base 5 "need_deed_of_run" 3 Qm) (I:DefS P w K mg base 8 "answer_to" 3 (jh C)) (J:MakeS P w K mg base 8 C "House" 3 (Yh C)) (G:MethS P w K mg base 1 C "table" 1 (V1 C)):FnOk P w K mg base (CXD P w) 10 f fd ["table", "deeds"] (spF mg 2 (X8 C)):=by
 have:FnScope ["table", "deeds", "houses", "letters", "answers", "deed"] ["table", "deeds"] (Q7 Q55):=by fail "c"
 delta X8 Q0e Q1u j6 qy
 fail "K"
def Kp : MS := (Qf (Ye (toB (mOp oLt (Q3 1) (Qw Zt (Q0 (Q3 0) Q4)))) (Jv (mOp oIx (Q3 0) (Q3 1))) Zw)
  (Jv (mC (.int 0))))
def Wp:FN:=Qh Kp 2
theorem Q79 (F:Fun K "_law_acell" "_law_acell" yc f fd) (T:Txt mg)   : FnOk P w K mg base (CXD P w) 1 f fd ["script", "k"] (spF mg 2 Wp):=by
 have:FnScope ["script", "k"] ["script", "k"] (Q7 yc):=by fail "c"
 delta Wp Kp
 fail "k"
def X7 : MS := (Qf (Qz 4 (mOp Yb (mOp Q41 (Q3 4) (Q3 3)) (Q3 5)))
  (Qz 5 (mOp Q27 (mOp Yb (mOp Yb (mOp Q41 (Q3 5) (Q3 5)) (mOp Q41 (mC (.int 40692)) (Q3 1))) (Q3 6)) (Q3 3))))
def Km : MS := (Qf (Qz 2 (Qc 2 Wp (Q0 (Q3 0) (Q0 (Q3 1) Q4))))
  (Qf (Ye (toB (mOp oEq (mOp Q27 (Q3 2) (mC (.int 2))) (mC (.int 0)))) (Jv (Q02 (jd (Q0 (mOp Qp2 (Q3 2) (mC (.int 2))) Q4)))) Zw)
  (Qf (Qz 3 (mC (.int 2305843009213693951)))
  (Qf (Qz 4 (mC (.int 0)))
  (Qf (Qz 5 (mOp Q27 (mOp Yb (mOp Yb (mOp Q41 (mOp Q27 (Q3 2) (Q3 3)) (mC (.int 48271))) (mOp Q41 (mC (.int 69621)) (Q3 1))) (mC (.int 11))) (Q3 3)))
  (Qf (Q62 (Qg 6) (Yj (Q0 (mC (.int 5)) Q4)) X7)
  (Jv (Q02 (jd (Q0 (Q3 4) Q4))))))))))
def Zv:FN:=Y7 Km 7
theorem Q75 (F:Fun K "_law_atape" "_law_atape" y4 f fd) (T:Txt mg)  (q:DefS P w K mg base 1 "_law_acell" 2 Wp):FnOk P w K mg base (CXD P w) 2 f fd ["script", "k"] (spF mg 2 Zv):=by
 have:FnScope ["script", "k", "cell", "p", "number", "last", "turn"] ["script", "k"] (Q7 y4):=by fail "c"
 delta Zv Km X7
 fail "K"
def jy : MS := (Qf (Qz 2 (mOp Q27 (mOp oIx (Q3 0) (mC (.int 0))) (Q3 1)))
  (Qf (x9 (Q3 0) (mC (.int 0)) (mOp Qdx (mOp oIx (Q3 0) (mC (.int 0))) (Q3 1)))
  (Jv (Q3 2))))
def Q8:FN:=Qh jy 3
theorem Q5k (F:Fun K "_law_adigit" "_law_adigit" jq f fd) (T:Txt mg)   : FnOk P w K mg base (CXD P w) 1 f fd ["tape", "many"] (spF mg 2 Q8):=by
 have:FnScope ["tape", "many", "found"] ["tape", "many"] (Q7 jq):=by fail "c"
 delta Q8 jy
 fail "k"
def Xp:ME:=(mOp oIx (mOp oIx (Q3 2) (Q3 0)) (Q3 1))
def Xn:ME:=(Q3 0)
def qr : MS := (Qf (Qz 2 (Qw (X6 fun ns => some (.int ns.sum)) (Q0 (Xh (Y3 [none, some 1, some 0] (Qg 0) (Yj (Q0 (Qw Zt (Q0 (Q3 0) Q4)) Q4)) Zg Xp)) Q4)))
  (Jv (mOp Yb (mOp (oI fun a b=>.int (a - b)) (Q3 2) (Qw (X6 fun ns=>some (.int ns.sum)) (Q0 (Xh (Y3 [none] (Qg 0) (Q03 (mOp oIx (Q3 0) (Q3 1))) Zg Xn)) Q4))) (mOp oIx (mOp oIx (Q3 0) (Q3 1)) (Q3 1)))))
def J0:FN:=Qh qr 3
theorem Q3t (F:Fun K "_law_arights" "_law_arights" qd f fd) (T:Txt mg)   : FnOk P w K mg base (CXD P w) 1 f fd ["table", "i"] (spF mg 2 J0):=by
 have:FnScope ["table", "i", "lent"] ["table", "i"] (Q7 qd):=by fail "c"
 delta J0 qr Xn Xp
 fail "k"
def X4:ME:=(Qw U5 (Q0 (mOp Q41 (Kv (Q0 (mC (.int 0)) Q4)) (mOp Yb (Q3 1) (mC (.int 1)))) Q4))
def x8:MS:=(Jv (Qw U5 (Q0 (Xh (Y3 [none,some 0] (Qg 0) (Yj (Q0 (Q3 0) Q4)) Zg X4)) Q4)))
def Xa:FN:=Qh x8 1
theorem Q7a (F:Fun K "_law_abare" "_law_abare" yd f fd) (T:Txt mg)   : FnOk P w K mg base (CXD P w) 1 f fd ["size"] (spF mg 1 Xa):=by
 have:FnScope ["size"] ["size"] (Q7 yd):=by fail "c"
 delta Xa x8 X4
 fail "k"
def qt : MS := (Qf (Qz 4 (mOp Yb (mOp Yb (mSl (mOp oIx (Q3 0) (Q3 1)) Ym (Wm (Q3 2))) (Y2 (Q0 (mOp Yb (mOp oIx (mOp oIx (Q3 0) (Q3 1)) (Q3 2)) (Q3 3)) Q4))) (mSl (mOp oIx (Q3 0) (Q3 1)) (Wm (mOp Yb (Q3 2) (mC (.int 1)))) Ym)))
  (Jv (mOp Yb (mOp Yb (mSl (Q3 0) Ym (Wm (Q3 1))) (Y2 (Q0 (Q3 4) Q4))) (mSl (Q3 0) (Wm (mOp Yb (Q3 1) (mC (.int 1)))) Ym))))
def J6:FN:=Qh qt 5
theorem Q3u (F:Fun K "_law_araised" "_law_araised" qe f fd) (T:Txt mg)   : FnOk P w K mg base (CXD P w) 1 f fd ["table", "i", "at", "k"] (spF mg 4 J6):=by
 have:FnScope ["table", "i", "at", "k", "row"] ["table", "i", "at", "k"] (Q7 qe):=by fail "c"
 delta J6 qt
 fail "k"
def Vs:ME:=(Qw Q3c (Q0 (Q3 0) (Q0 (Q3 1) Q4)))
def Xq:MS:=(Wd (mBM Ws (Q3 2) (Q0 (Qw U5 (Q0 (Xh (Y3 [none,none] (Kh (Y5 (Qg 0) (Y5 (Qg 1) Ki))) (Q7i (Q0 (Q3 3) (Q0 (Q3 4) Q4))) Zg Vs)) Q4)) Q4)))
def qw : MS := (Qf (Qz 2 (Q02 (jd Q4)))
  (Qf (Q62 (Kh (Y5 (Qg 3) (Y5 (Qg 4) Ki))) (Q7i (Q0 (Q3 0) (Q0 (Q3 1) Q4))) Xq)
  (Jv (Qw U5 (Q0 (Q3 2) Q4)))))
def Vq:FN:=Qh qw 5
theorem Q3w (F:Fun K "_law_ajoined" "_law_ajoined" qg f fd) (T:Txt mg)   : FnOk P w K mg base (CXD P w) 1 f fd ["one", "other"] (spF mg 2 Vq):=by
 have:FnScope ["one", "other", "rows", "row", "told"] ["one", "other"] (Q7 qg):=by fail "c"
 delta Vq qw Xq Vs
 fail "k"
def Kn : MS := (Qf (Qz 1 (Qc 2 Q8 (Q0 (Q3 0) (Q0 (mC (.int 12)) Q4))))
  (Qf (Ye (toB (mOp oEq (Q3 1) (mC (.int 11)))) (Jv (mOp (oI fun a b=>.int (a - b)) (mOp Q40 (mC (.int 10)) (mC (.int 20))) (Qc 2 Q8 (Q0 (Q3 0) (Q0 (mC (.int 3)) Q4))))) Zw)
  (Jv (mOp Yb (mC (.int 1)) (mOp Q27 (Q3 1) (mC (.int 7)))))))
def Wb:FN:=Qh Kn 2
theorem Q77 (F:Fun K "_law_amuch" "_law_amuch" y8 f fd) (T:Txt mg)  (q:DefS P w K mg base 1 "_law_adigit" 2 Q8):FnOk P w K mg base (CXD P w) 2 f fd ["tape"] (spF mg 1 Wb):=by
 have:FnScope ["tape", "way"] ["tape"] (Q7 y8):=by fail "c"
 delta Wb Kn
 fail "k"
def Uc : MS := (Qf (Qz 5 (Qc 2 Q8 (Q0 (Q3 0) (Q0 (Q3 1) Q4))))
  (Qf (Qz 6 (Qc 2 Q8 (Q0 (Q3 0) (Q0 (mC (.int 4)) Q4))))
  (Qf (Qz 7 (Qc 2 J0 (Q0 (Q3 3) (Q0 (Q3 5) Q4))))
  (Ye (Q3q (toB (mOp oLt (Q3 6) (mC (.int 2)))) (toB (mOp oEq (Q3 7) (mC (.int 0))))) (Qz 3 (Qc 4 J6 (Q0 (Q3 3) (Q0 (Q3 5) (Q0 (Q3 5) (Q0 (Qc 1 Wb (Q0 (Q3 0) Q4)) Q4)))))) (Ye (xz (toB (mOp oEq (Q3 6) (mC (.int 2)))) (toB (mOp (oI fun a b=>.bl (decide (b < a))) (Q3 1) (mC (.int 1))))) (Qf (Qz 8 (mOp Q27 (mOp Yb (mOp Yb (Q3 5) (mC (.int 1))) (Qc 2 Q8 (Q0 (Q3 0) (Q0 (mOp (oI fun a b=>.int (a - b)) (Q3 1) (mC (.int 1))) Q4)))) (Q3 1)))
  (Qz 3 (Qc 4 J6 (Q0 (Q3 3) (Q0 (Q3 5) (Q0 (Q3 8) (Q0 (mOp Yb (mC (.int 1)) (Qc 2 Q8 (Q0 (Q3 0) (Q0 (Q3 7) Q4)))) Q4))))))) (Qz 3 (Qc 4 J6 (Q0 (Q3 3) (Q0 (Q3 5) (Q0 (Q3 1) (Q0 (mOp Yb (mC (.int 1)) (Qc 2 Q8 (Q0 (Q3 0) (Q0 (Q3 7) Q4)))) Q4)))))))))))
def jv : MS := (Qf (Qz 3 (Qc 1 Xa (Q0 (Q3 1) Q4)))
  (Qf (Q62 (Qg 4) (Yj (Q0 (Q3 2) Q4)) Uc)
  (Jv (Q3 3))))
def Wy:FN:=Qh jv 9
theorem Q5h (F:Fun K "_law_atable" "_law_atable" jm f fd) (T:Txt mg)  (J:DefS P w K mg base 1 "_law_abare" 1 Xa) (G:DefS P w K mg base 1 "_law_adigit" 2 Q8) (q:DefS P w K mg base 1 "_law_arights" 2 J0) (B:DefS P w K mg base 1 "_law_araised" 4 J6) (I:DefS P w K mg base 2 "_law_amuch" 1 Wb):FnOk P w K mg base (CXD P w) 3 f fd ["tape", "size", "many"] (spF mg 3 Wy):=by
 have:FnScope ["tape", "size", "many", "table", "turn", "i", "way", "have", "j"] ["tape", "size", "many"] (Q7 jm):=by fail "c"
 delta Wy jv Uc
 fail "k"
def Kc:ME:=(Q3 1)
def Kb:ME:=(Q3 1)
def jw:MS:=(Jv (Q9c "now" "last" "letters" (Q02 (Y3 [none,some 0] (Qg 0) (Yj (Q0 (Qw Zt (Q0 (Q3 0) Q4)) Q4)) Zg Kc)) (Q02 (Y3 [none,some 0] (Qg 0) (Yj (Q0 (Qw Zt (Q0 (Q3 0) Q4)) Q4)) Zg Kb)) (Q02 (jd Q4))))
def Wz:FN:=Y7 jw 1
theorem Q5i (F:Fun K "_law_astart" "_law_astart" jn f fd) (T:Txt mg)   : FnOk P w K mg base (CXD P w) 1 f fd ["table"] (spF mg 1 Wz):=by
 have:FnScope ["table"] ["table"] (Q7 jn):=by fail "c"
 delta Wz jw Kb Kc
 fail "K"
def W7 : MS := (Qf (Qz 2 (Vj (Q3 0) (mC (.str "now"))))
  (Qf (Ye (toB (mOp oEq (mOp oIx (Q3 1) (mC (.int 0))) (mC (.str "keep")))) (x9 (Vj (Q3 0) (mC (.str "last"))) (mOp oIx (Q3 1) (mC (.int 1))) (mOp oIx (Q3 2) (mOp oIx (Q3 1) (mC (.int 1))))) (Ye (toB (mOp oEq (mOp oIx (Q3 1) (mC (.int 0))) (mC (.str "fall")))) (x9 (Q3 2) (mOp oIx (Q3 1) (mC (.int 1))) (mOp oIx (Vj (Q3 0) (mC (.str "last"))) (mOp oIx (Q3 1) (mC (.int 1))))) (Ye (toB (mOp oEq (mOp oIx (Q3 1) (mC (.int 0))) (mC (.str "send")))) (Wd (mBM Ws (Vj (Q3 0) (mC (.str "letters"))) (Q0 (mOp oIx (Vj (Q3 0) (mC (.str "last"))) (mOp oIx (Q3 1) (mC (.int 1)))) Q4))) (Ye (toB (mOp oEq (mOp oIx (Q3 1) (mC (.int 0))) (mC (.str "come")))) (x9 (Q3 2) (mOp oIx (Q3 1) (mC (.int 2))) (Qc 2 Vq (Q0 (mOp oIx (Q3 2) (mOp oIx (Q3 1) (mC (.int 2)))) (Q0 (mOp oIx (Vj (Q3 0) (mC (.str "letters"))) (mOp oIx (Q3 1) (mC (.int 1)))) Q4)))) (Qf (Qz 3 (mOp oIx (Q3 1) (mC (.int 1))))
  (Qf (Qz 4 (Qc 2 J0 (Q0 (mOp oIx (Q3 2) (Q3 3)) (Q0 (Q3 3) Q4))))
  (Qf (Ye (xz (toB (mOp oNe (mOp oIx (Q3 1) (mC (.int 0))) (mC (.str "make")))) (toB (mOp oLt (Q3 4) (mOp oIx (Q3 1) (xg (mC (.int 1))))))) (Jv (Q3 4)) Zw)
  (Qf (Qz 5 (Qb2 "make" "use" "lend" (Q3 3) (Qw Zt (Q0 (Q3 2) Q4)) (mOp oIx (Q3 1) (mC (.int 2))) (mOp oIx (Q3 1) (mC (.int 0)))))
  (x9 (Q3 2) (Q3 3) (Qc 4 J6 (Q0 (mOp oIx (Q3 2) (Q3 3)) (Q0 (Q3 3) (Q0 (Q3 5) (Q0 (mOp oIx (Q3 1) (xg (mC (.int 1)))) Q4))))))))))))))
  (Jv (mC (.str "done")))))
def X9:FN:=Qh W7 6
theorem Q76 (F:Fun K "_law_astep" "_law_astep" y6 f fd) (T:Txt mg)  (B:DefS P w K mg base 1 "_law_ajoined" 2 Vq) (q:DefS P w K mg base 1 "_law_arights" 2 J0) (G:DefS P w K mg base 1 "_law_araised" 4 J6):FnOk P w K mg base (CXD P w) 2 f fd ["state", "deed"] (spF mg 2 X9):=by
 have:FnScope ["state", "deed", "now", "i", "have", "at"] ["state", "deed"] (Q7 y6):=by fail "c"
 delta X9 W7
 fail "k"
def jx : MS := (Qf (Qz 2 (Qw Zt (Q0 (Vj (Q3 1) (mC (.str "now"))) Q4)))
  (Qf (Qz 3 (Qc 2 Q8 (Q0 (Q3 0) (Q0 (Q3 2) Q4))))
  (Qf (Qz 4 (Qc 2 Q8 (Q0 (Q3 0) (Q0 (mC (.int 12)) Q4))))
  (Qf (Qz 5 (Qw Q3c (Q0 (mC (.int 0)) (Q0 (Qc 2 J0 (Q0 (mOp oIx (Vj (Q3 1) (mC (.str "now"))) (Q3 3)) (Q0 (Q3 3) Q4))) Q4))))
  (Qf (Qz 6 (mOp Yb (mC (.int 1)) (Qc 2 Q8 (Q0 (Q3 0) (Q0 (mOp Yb (Q3 5) (mC (.int 2))) Q4)))))
  (Qf (Ye (toB (mOp oEq (Q3 4) (mC (.int 0)))) (Jv (Y2 (Q0 (mC (.str "make")) (Q0 (Q3 3) (Q0 (Qc 1 Wb (Q0 (Q3 0) Q4)) Q4))))) Zw)
  (Qf (Ye (xz (toB (mOp oLt (Q3 4) (mC (.int 4)))) (toB (mOp (oI fun a b=>.bl (decide (b < a))) (Q3 2) (mC (.int 1))))) (Jv (Y2 (Q0 (mC (.str "lend")) (Q0 (Q3 3) (Q0 (mOp Q27 (mOp Yb (mOp Yb (Q3 3) (mC (.int 1))) (Qc 2 Q8 (Q0 (Q3 0) (Q0 (mOp (oI fun a b=>.int (a - b)) (Q3 2) (mC (.int 1))) Q4)))) (Q3 2)) (Q0 (Q3 6) Q4)))))) Zw)
  (Qf (Ye (toB (mOp oLt (Q3 4) (mC (.int 6)))) (Jv (Y2 (Q0 (mC (.str "use")) (Q0 (Q3 3) (Q0 (Q3 6) Q4))))) Zw)
  (Qf (Ye (toB (mOp oLt (Q3 4) (mC (.int 8)))) (Jv (Y2 (Q0 (mOp oIx (Kv (Q0 (mC (.str "keep")) (Q0 (mC (.str "fall")) Q4))) (Qw Qbq (Q0 (mOp oEq (Qc 2 Q8 (Q0 (Q3 0) (Q0 (mC (.int 3)) Q4))) (mC (.int 0))) Q4))) (Q0 (Q3 3) Q4)))) Zw)
  (Qf (Ye (Q3q (toB (mOp oEq (Q3 4) (mC (.int 8)))) (toB (mOp oEq (Vj (Q3 1) (mC (.str "letters"))) (Kv Q4)))) (Jv (Y2 (Q0 (mC (.str "send")) (Q0 (Q3 3) Q4)))) Zw)
  (Jv (Y2 (Q0 (mC (.str "come")) (Q0 (Qc 2 Q8 (Q0 (Q3 0) (Q0 (Qw Zt (Q0 (Vj (Q3 1) (mC (.str "letters"))) Q4)) Q4))) (Q0 (Q3 3) Q4)))))))))))))))
def V0:FN:=Qh jx 7
theorem Q5j (F:Fun K "_law_adrawn" "_law_adrawn" jp f fd) (T:Txt mg)  (B:DefS P w K mg base 1 "_law_adigit" 2 Q8) (q:DefS P w K mg base 1 "_law_arights" 2 J0) (G:DefS P w K mg base 2 "_law_amuch" 1 Wb):FnOk P w K mg base (CXD P w) 3 f fd ["tape", "state"] (spF mg 2 V0):=by
 have:FnScope ["tape", "state", "size", "i", "way", "have", "much"] ["tape", "state"] (Q7 jp):=by fail "c"
 delta V0 jx
 fail "k"
def Vt : MS := (Qf (Wd (mBM Ws (Q3 5) (Q0 (Qc 2 V0 (Q0 (Q3 8) (Q0 (Q3 4) Q4))) Q4)))
  (Wd (mBM Ws (Q3 6) (Q0 (Qc 2 X9 (Q0 (Q3 4) (Q0 (mOp oIx (Q3 5) (xg (mC (.int 1)))) Q4))) Q4))))
def Vu : MS := (Qf (Qz 8 (Qc 2 Zv (Q0 (Q3 0) (Q0 (Q3 7) Q4))))
  (Q62 (Qg 9) (Yj (Q0 (mC (.int 3)) Q4)) Vt))
def qv : MS := (Qf (Qz 4 (Qc 1 Wz (Q0 (Q3 3) Q4)))
  (Qf (Qz 5 (Q02 (jd Q4)))
  (Qf (Qz 6 (Q02 (jd Q4)))
  (Qf (Q62 (Qg 7) (xb (Q0 (Q3 1) (Q0 (mOp Yb (Q3 1) (Q3 2)) Q4))) Vu)
  (Jv (Y2 (Q0 (Q3 5) (Q0 (Q3 6) (Q0 (Q3 4) Q4)))))))))
def Vp:FN:=Y7 qv 10
theorem Q3v (F:Fun K "_law_aplayed" "_law_aplayed" qf f fd) (T:Txt mg)  (B:DefS P w K mg base 1 "_law_astart" 1 Wz) (G:DefS P w K mg base 2 "_law_atape" 2 Zv) (q:DefS P w K mg base 3 "_law_adrawn" 2 V0) (I:DefS P w K mg base 2 "_law_astep" 2 X9):FnOk P w K mg base (CXD P w) 4 f fd ["script", "start", "many", "table"] (spF mg 4 Vp):=by
 have:FnScope ["script", "start", "many", "table", "state", "deeds", "answers", "k", "tape", "turn"] ["script", "start", "many", "table"] (Q7 qf):=by fail "c"
 delta Vp qv Vu Vt
 fail "K"
def jz : MS := (Qf (Qz 1 (Qc 2 Zv (Q0 (Q3 0) (Q0 (mC (.int 0)) Q4))))
  (Qf (Qz 2 (mOp Yb (mC (.int 1)) (Qc 2 Q8 (Q0 (Q3 1) (Q0 (mC (.int 8)) Q4)))))
  (Jv (Qc 3 Wy (Q0 (Q3 1) (Q0 (Q3 2) (Q0 (Qc 2 Q8 (Q0 (Q3 1) (Q0 (mC (.int 9)) Q4))) Q4)))))))
def Ua:FN:=Qh jz 3
theorem Q5m (F:Fun K "_law_abegun" "_law_abegun" jr f fd) (T:Txt mg)  (G:DefS P w K mg base 2 "_law_atape" 2 Zv) (q:DefS P w K mg base 1 "_law_adigit" 2 Q8) (B:DefS P w K mg base 3 "_law_atable" 3 Wy):FnOk P w K mg base (CXD P w) 4 f fd ["script"] (spF mg 1 Ua):=by
 have:FnScope ["script", "tape", "size"] ["script"] (Q7 jr):=by fail "c"
 delta Ua jz
 fail "k"
abbrev kdL:List (Nat × Str):=[(3, "deed"),(2, "house"),(4, "letter"),(1, "table")]
def Qvn (c:Nat->aA):Sp:=fun vs H Q E=>∃ e dv t wd,vs=[V.ref e]/\(t,wd)∈kdL/\H e=some (.ext (IsXD e (c t) dv))/\∀ H2,Same H H2->Q (.str wd) H2
theorem sc__law_akind:FnScope ["caught", "names", "some"] ["caught"] (Q7 y9):=⟨rfl,rfl,rfl,by decide +kernel,rfl,by decide +kernel,by decide +kernel⟩
theorem Q78 (F:Fun K "_law_akind" "_law_akind" y9 f fd) (T:Txt mg) (G:Nms mg c) (TT:∀ t wd,(t,wd)∈kdL->TgtS K c t/\PySem.W.kitOne K (.ref (c t)) (.ref (c 0))=some true):FnOk P w K mg base (CXD P w) 1 f fd ["caught"] (Qvn c):=by
 refine Fun.okD (k:=0) F sc__law_akind (fun vs H Q E h=>by obtain ⟨e,dv,_,_,rfl,_⟩:=h; rfl) fun i8 A outer s H vs Q E hr h3=>?_
 obtain ⟨e,dv,t,wd,rfl,hm,g9,hQ⟩:=h3;obtain ⟨B,W0⟩:=TT t wd hm;refine jok ?_;refine ⟨_,K0 (Q1p (i:=1) sc__law_akind.nd rfl (Or.inl rfl) (Q1q ⟨Qak ["book", "deed", "house", "letter", "manner", "name", "plan", "road", "row", "stand", "table"] [(_,_),(_,_),(_,_),(_,_),(_,_),(_,_),(_,_),(_,_),(_,_),(_,_),(_,_)] rfl⟩))
   (K0 (Q1p (i:=1) sc__law_akind.nd rfl (Or.inl rfl) (Qb9 Q2u ⟨pv 1⟩ (Q1q ⟨Qak ["text", "short", "many"] [(_,_),(_,_),(_,_)] rfl⟩)))
   (K0 (Q1p (i:=2) sc__law_akind.nd rfl (Or.inl rfl) (Q1q (Vb ⟨Yd (Y9 K) (by rfl) G.isi Qr (Qu (pv 0) (Qu (We (v:=.ref (c 8)) (by rfl) G.m8 rfl) Yg))⟩ (Vb ⟨Yd (Y9 K) (by rfl) G.isi Qr (Qu (pv 0) (Qu (We (v:=.ref (c 3)) (by rfl) G.m3 rfl) Yg))⟩ (Vb ⟨Yd (Y9 K) (by rfl) G.isi Qr (Qu (pv 0) (Qu (We (v:=.ref (c 2)) (by rfl) G.m2 rfl) Yg))⟩ Q6a)))))
   (K0 (Q1p (i:=2) sc__law_akind.nd rfl (Or.inl rfl) (Qb9 Q2u ⟨pv 2⟩ (Q1q (Vb ⟨Yd (Y9 K) (by rfl) G.isi Qr (Qu (pv 0) (Qu (We (v:=.ref (c 4)) (by rfl) G.m4 rfl) Yg))⟩ (Vb ⟨Yd (Y9 K) (by rfl) G.isi Qr (Qu (pv 0) (Qu (We (v:=.ref (c 9)) (by rfl) G.m9 rfl) Yg))⟩ (Vb ⟨Yd (Y9 K) (by rfl) G.isi Qr (Qu (pv 0) (Qu (We (v:=.ref (c 13)) (by rfl) G.m13 rfl) Yg))⟩ Q6a))))))
   (K0 (Q1p (i:=2) sc__law_akind.nd rfl (Or.inl rfl) (Qb9 Q2u ⟨pv 2⟩ (Q1q (Vb ⟨Yd (Y9 K) (by rfl) G.isi Qr (Qu (pv 0) (Qu (We (v:=.ref (c 7)) (by rfl) G.m7 rfl) Yg))⟩ (Vb ⟨Yd (Y9 K) (by rfl) G.isi Qr (Qu (pv 0) (Qu (We (v:=.ref (c 6)) (by rfl) G.m6 rfl) Yg))⟩ (Vb ⟨Yd (Y9 K) (by rfl) G.isi Qr (Qu (pv 0) (Qu (We (v:=.ref (c 12)) (by rfl) G.m12 rfl) Yg))⟩ Q6a))))))
   (K0 (Q1p (i:=2) sc__law_akind.nd rfl (Or.inl rfl) (Qb9 Q2u ⟨pv 2⟩ (Q1q (Vb ⟨Yd (Y9 K) (by rfl) G.isi Qr (Qu (pv 0) (Qu (We (v:=.ref (c 5)) (by rfl) G.m5 rfl) Yg))⟩ (Vb ⟨Yd (Y9 K) (by rfl) G.isi Qr (Qu (pv 0) (Qu (We (v:=.ref (c 1)) (by rfl) G.m1 rfl) Yg))⟩ (Vb ⟨Yd (Y9 K) (by rfl) G.isi Qr (Qu (pv 0) (Qu (We (v:=.ref (c 11)) (by rfl) G.m11 rfl) Yg))⟩ Q6a))))))
   (K0 (Q1p (i:=2) sc__law_akind.nd rfl (Or.inl rfl) (Qb9 Q2u ⟨pv 2⟩ (Q1q (Vb ⟨Yd (Y9 K) (by rfl) G.isi Qr (Qu (pv 0) (Qu (We (v:=.ref (c 14)) (by rfl) G.m14 rfl) Yg))⟩ (Vb ⟨Yd (Y9 K) (by rfl) G.isi Qr (Qu (pv 0) (Qu (We (v:=.ref (c 10)) (by rfl) G.m10 rfl) Yg))⟩ Q6a)))))
   (K0 (Qx1 (PW.pt (Qi4 (Q93 Qwd (Qip PySem.F.plainAttrs_list PySem.F.slot_list_count PySem.F.type_list_count Qfs (pv 2) (Qu Qiq Yg)) Qik (Q5p _)) (Qi4 (Qcc (Qcb (Yd (Y9 K) (by rfl) G.isi Qr (Qu (pv 0) (Qu (We (v:=.ref (c 0)) (by rfl) G.m0 rfl) Yg))))) (Qi3 (Qcc (Qcb (Yd (Y9 K) (by rfl) G.isi Qr (Qu (pv 0) (Qu (Qds (v:=.ty "ValueError") (by rfl) G.ve Q45 rfl) Yg))))))))) (Qea (Qjf Qtx)) Qpk)
   (Qea (Qjf (Qx2 ix_list (⟨pv 1⟩) ⟨Qip PySem.F.plainAttrs_list PySem.F.slot_list_index PySem.F.type_list_index Qfq (pv 2) (Qu Qiq Yg)⟩ (fun _ _=>rfl))))))))))),?_⟩
 refine ⟨by first | decide | exact Yy (by simp),fun p1 g3=>?_⟩;obtain ⟨H1,e1⟩:∃ H1,upd H p1 (.lst (List.map V.str ["book", "deed", "house", "letter", "manner", "name", "plan", "road", "row", "stand", "table"]))=H1:=⟨_,rfl⟩;have g7:H1 e=some (.ext (IsXD e (c t) dv)):=e1 ▸ Yv g9 g3;have h6:Same H H1:=e1 ▸ Wq (fun _ _ z=>z) g3;have d1:H1 p1=some (.lst (List.map V.str ["book", "deed", "house", "letter", "manner", "name", "plan", "road", "row", "stand", "table"])):=e1 ▸ Qj;rw [show upd H p1 (.lst (List.map V.str ["book", "deed", "house", "letter", "manner", "name", "plan", "road", "row", "stand", "table"]))=H1 from e1];refine ⟨_,rfl,?_⟩;refine ⟨by first | decide | exact Yy (by simp),fun p2 f6=>?_⟩;obtain ⟨H2,e2⟩:∃ H2,upd H1 p2 (.lst (List.map V.str ["text", "short", "many"]))=H2:=⟨_,rfl⟩;have i4:H2 e=some (.ext (IsXD e (c t) dv)):=e2 ▸ Yv g7 f6;have h8:Same H H2:=e2 ▸ Wq h6 f6
 have b9:H2 p2=some (.lst (List.map V.str ["text", "short", "many"])):=e2 ▸ Qj;have a5:H2 p1=some (.lst (List.map V.str ["book", "deed", "house", "letter", "manner", "name", "plan", "road", "row", "stand", "table"])):=e2 ▸ Yv d1 f6;rw [show upd H1 p2 (.lst (List.map V.str ["text", "short", "many"]))=H2 from e2];refine ⟨_,_,_,_,rfl,rfl,a5,b9,(by first | decide | exact Yy (by simp)),fun p3 f2=>?_⟩;obtain ⟨H3,e3⟩:∃ H3,upd H2 p3 (.lst (List.map V.str ["book", "deed", "house", "letter", "manner", "name", "plan", "road", "row", "stand", "table"] ++ List.map V.str ["text", "short", "many"]))=H3:=⟨_,rfl⟩;have c0:H3 e=some (.ext (IsXD e (c t) dv)):=e3 ▸ Yv i4 f2;have i6:Same H H3:=e3 ▸ Wq h8 f2;have c2:H3 p3=some (.lst (List.map V.str ["book", "deed", "house", "letter", "manner", "name", "plan", "road", "row", "stand", "table"] ++ List.map V.str ["text", "short", "many"])):=e3 ▸ Qj
 have g4:H3 p1=some (.lst (List.map V.str ["book", "deed", "house", "letter", "manner", "name", "plan", "road", "row", "stand", "table"])):=e3 ▸ Yv a5 f2;rw [show upd H2 p3 (.lst (List.map V.str ["book", "deed", "house", "letter", "manner", "name", "plan", "road", "row", "stand", "table"] ++ List.map V.str ["text", "short", "many"]))=H3 from e3];refine ⟨_,rfl,e,_,_,_,_,decide (8=t),rfl,rfl,c0,B.xc,B.k 8 (by decide) (by decide),?_⟩;refine ⟨_,rfl,e,_,_,_,_,decide (3=t),rfl,rfl,c0,B.xc,B.k 3 (by decide) (by decide),?_⟩;refine ⟨_,rfl,e,_,_,_,_,decide (2=t),rfl,rfl,c0,B.xc,B.k 2 (by decide) (by decide),?_⟩;refine ⟨by first | decide | exact Yy (by simp),fun p4 f5=>?_⟩;obtain ⟨H4,e4⟩:∃ H4,upd H3 p4 (.lst [.bl (decide (8=t)),.bl (decide (3=t)),.bl (decide (2=t))])=H4:=⟨_,rfl⟩;have d3:H4 e=some (.ext (IsXD e (c t) dv)):=e4 ▸ Yv c0 f5;have i0:Same H H4:=e4 ▸ Wq i6 f5;have c9:H4 p4=some (.lst [.bl (decide (8=t)),.bl (decide (3=t)),.bl (decide (2=t))]):=e4 ▸ Qj
 have c6:H4 p3=some (.lst (List.map V.str ["book", "deed", "house", "letter", "manner", "name", "plan", "road", "row", "stand", "table"] ++ List.map V.str ["text", "short", "many"])):=e4 ▸ Yv c2 f5;rw [show upd H3 p4 (.lst (_))=H4 from e4];refine ⟨_,rfl,?_⟩;refine ⟨_,rfl,e,_,_,_,_,decide (4=t),rfl,rfl,d3,B.xc,B.k 4 (by decide) (by decide),?_⟩;refine ⟨_,rfl,e,_,_,_,_,decide (9=t),rfl,rfl,d3,B.xc,B.k 9 (by decide) (by decide),?_⟩;refine ⟨_,rfl,e,_,_,_,_,decide (13=t),rfl,rfl,d3,B.xc,B.k 13 (by decide) (by decide),?_⟩;refine ⟨by first | decide | exact Yy (by simp),fun p5 c4=>?_⟩;obtain ⟨H5,e5⟩:∃ H5,upd H4 p5 (.lst [.bl (decide (4=t)),.bl (decide (9=t)),.bl (decide (13=t))])=H5:=⟨_,rfl⟩;have g8:H5 e=some (.ext (IsXD e (c t) dv)):=e5 ▸ Yv d3 c4;have h4:Same H H5:=e5 ▸ Wq i0 c4;have c1:H5 p5=some (.lst [.bl (decide (4=t)),.bl (decide (9=t)),.bl (decide (13=t))]):=e5 ▸ Qj
 have d6:H5 p3=some (.lst (List.map V.str ["book", "deed", "house", "letter", "manner", "name", "plan", "road", "row", "stand", "table"] ++ List.map V.str ["text", "short", "many"])):=e5 ▸ Yv c6 c4;have a8:H5 p4=some (.lst [.bl (decide (8=t)),.bl (decide (3=t)),.bl (decide (2=t))]):=e5 ▸ Yv c9 c4;rw [show upd H4 p5 (.lst (_))=H5 from e5];refine ⟨_,_,_,_,rfl,rfl,a8,c1,(by first | decide | exact Yy (by simp)),fun p6 c5=>?_⟩;obtain ⟨H6,e6⟩:∃ H6,upd H5 p6 (.lst [.bl (decide (8=t)),.bl (decide (3=t)),.bl (decide (2=t)),.bl (decide (4=t)),.bl (decide (9=t)),.bl (decide (13=t))])=H6:=⟨_,rfl⟩;have d4:H6 e=some (.ext (IsXD e (c t) dv)):=e6 ▸ Yv g8 c5;have h9:Same H H6:=e6 ▸ Wq h4 c5;have d8:H6 p6=some (.lst [.bl (decide (8=t)),.bl (decide (3=t)),.bl (decide (2=t)),.bl (decide (4=t)),.bl (decide (9=t)),.bl (decide (13=t))]):=e6 ▸ Qj;have d7:H6 p3=some (.lst (List.map V.str ["book", "deed", "house", "letter", "manner", "name", "plan", "road", "row", "stand", "table"] ++ List.map V.str ["text", "short", "many"])):=e6 ▸ Yv d6 c5
 have g5:H6 p4=some (.lst [.bl (decide (8=t)),.bl (decide (3=t)),.bl (decide (2=t))]):=e6 ▸ Yv a8 c5;rw [show upd H5 p6 (.lst ([.bl (decide (8=t)),.bl (decide (3=t)),.bl (decide (2=t))] ++ [.bl (decide (4=t)),.bl (decide (9=t)),.bl (decide (13=t))]))=H6 from e6];refine ⟨_,rfl,?_⟩;refine ⟨_,rfl,e,_,_,_,_,decide (7=t),rfl,rfl,d4,B.xc,B.k 7 (by decide) (by decide),?_⟩;refine ⟨_,rfl,e,_,_,_,_,decide (6=t),rfl,rfl,d4,B.xc,B.k 6 (by decide) (by decide),?_⟩;refine ⟨_,rfl,e,_,_,_,_,decide (12=t),rfl,rfl,d4,B.xc,B.k 12 (by decide) (by decide),?_⟩;refine ⟨by first | decide | exact Yy (by simp),fun p7 d0=>?_⟩;obtain ⟨H7,e7⟩:∃ H7,upd H6 p7 (.lst [.bl (decide (7=t)),.bl (decide (6=t)),.bl (decide (12=t))])=H7:=⟨_,rfl⟩;have h7:H7 e=some (.ext (IsXD e (c t) dv)):=e7 ▸ Yv d4 d0;have h5:Same H H7:=e7 ▸ Wq h9 d0;have d5:H7 p7=some (.lst [.bl (decide (7=t)),.bl (decide (6=t)),.bl (decide (12=t))]):=e7 ▸ Qj
 have f1:H7 p3=some (.lst (List.map V.str ["book", "deed", "house", "letter", "manner", "name", "plan", "road", "row", "stand", "table"] ++ List.map V.str ["text", "short", "many"])):=e7 ▸ Yv d7 d0;have a3:H7 p6=some (.lst [.bl (decide (8=t)),.bl (decide (3=t)),.bl (decide (2=t)),.bl (decide (4=t)),.bl (decide (9=t)),.bl (decide (13=t))]):=e7 ▸ Yv d8 d0;rw [show upd H6 p7 (.lst (_))=H7 from e7];refine ⟨_,_,_,_,rfl,rfl,a3,d5,(by first | decide | exact Yy (by simp)),fun p8 c7=>?_⟩;obtain ⟨H8,e8⟩:∃ H8,upd H7 p8 (.lst [.bl (decide (8=t)),.bl (decide (3=t)),.bl (decide (2=t)),.bl (decide (4=t)),.bl (decide (9=t)),.bl (decide (13=t)),.bl (decide (7=t)),.bl (decide (6=t)),.bl (decide (12=t))])=H8:=⟨_,rfl⟩;have d9:H8 e=some (.ext (IsXD e (c t) dv)):=e8 ▸ Yv h7 c7;have i3:Same H H8:=e8 ▸ Wq h5 c7;have e0:H8 p8=some (.lst [.bl (decide (8=t)),.bl (decide (3=t)),.bl (decide (2=t)),.bl (decide (4=t)),.bl (decide (9=t)),.bl (decide (13=t)),.bl (decide (7=t)),.bl (decide (6=t)),.bl (decide (12=t))]):=e8 ▸ Qj
 have d2:H8 p3=some (.lst (List.map V.str ["book", "deed", "house", "letter", "manner", "name", "plan", "road", "row", "stand", "table"] ++ List.map V.str ["text", "short", "many"])):=e8 ▸ Yv f1 c7;have g6:H8 p6=some (.lst [.bl (decide (8=t)),.bl (decide (3=t)),.bl (decide (2=t)),.bl (decide (4=t)),.bl (decide (9=t)),.bl (decide (13=t))]):=e8 ▸ Yv a3 c7;rw [show upd H7 p8 (.lst ([.bl (decide (8=t)),.bl (decide (3=t)),.bl (decide (2=t)),.bl (decide (4=t)),.bl (decide (9=t)),.bl (decide (13=t))] ++ [.bl (decide (7=t)),.bl (decide (6=t)),.bl (decide (12=t))]))=H8 from e8];refine ⟨_,rfl,?_⟩;refine ⟨_,rfl,e,_,_,_,_,decide (5=t),rfl,rfl,d9,B.xc,B.k 5 (by decide) (by decide),?_⟩;refine ⟨_,rfl,e,_,_,_,_,decide (1=t),rfl,rfl,d9,B.xc,B.k 1 (by decide) (by decide),?_⟩;refine ⟨_,rfl,e,_,_,_,_,decide (11=t),rfl,rfl,d9,B.xc,B.k 11 (by decide) (by decide),?_⟩;refine ⟨by first | decide | exact Yy (by simp),fun p9 f0=>?_⟩
 obtain ⟨H9,e9⟩:∃ H9,upd H8 p9 (.lst [.bl (decide (5=t)),.bl (decide (1=t)),.bl (decide (11=t))])=H9:=⟨_,rfl⟩;have i5:H9 e=some (.ext (IsXD e (c t) dv)):=e9 ▸ Yv d9 f0;have i7:Same H H9:=e9 ▸ Wq i3 f0;have c8:H9 p9=some (.lst [.bl (decide (5=t)),.bl (decide (1=t)),.bl (decide (11=t))]):=e9 ▸ Qj;have c3:H9 p3=some (.lst (List.map V.str ["book", "deed", "house", "letter", "manner", "name", "plan", "road", "row", "stand", "table"] ++ List.map V.str ["text", "short", "many"])):=e9 ▸ Yv d2 f0;have a4:H9 p8=some (.lst [.bl (decide (8=t)),.bl (decide (3=t)),.bl (decide (2=t)),.bl (decide (4=t)),.bl (decide (9=t)),.bl (decide (13=t)),.bl (decide (7=t)),.bl (decide (6=t)),.bl (decide (12=t))]):=e9 ▸ Yv e0 f0;rw [show upd H8 p9 (.lst (_))=H9 from e9];refine ⟨_,_,_,_,rfl,rfl,a4,c8,(by first | decide | exact Yy (by simp)),fun b8 a9=>?_⟩;obtain ⟨U,b3⟩:∃ U,upd H9 b8 (.lst [.bl (decide (8=t)),.bl (decide (3=t)),.bl (decide (2=t)),.bl (decide (4=t)),.bl (decide (9=t)),.bl (decide (13=t)),.bl (decide (7=t)),.bl (decide (6=t)),.bl (decide (12=t)),.bl (decide (5=t)),.bl (decide (1=t)),.bl (decide (11=t))])=U:=⟨_,rfl⟩
 have b6:U e=some (.ext (IsXD e (c t) dv)):=b3 ▸ Yv i5 a9;have f8:Same H U:=b3 ▸ Wq i7 a9;have b0:U b8=some (.lst [.bl (decide (8=t)),.bl (decide (3=t)),.bl (decide (2=t)),.bl (decide (4=t)),.bl (decide (9=t)),.bl (decide (13=t)),.bl (decide (7=t)),.bl (decide (6=t)),.bl (decide (12=t)),.bl (decide (5=t)),.bl (decide (1=t)),.bl (decide (11=t))]):=b3 ▸ Qj;have b5:U p3=some (.lst (List.map V.str ["book", "deed", "house", "letter", "manner", "name", "plan", "road", "row", "stand", "table"] ++ List.map V.str ["text", "short", "many"])):=b3 ▸ Yv c3 a9;have f9:U p8=some (.lst [.bl (decide (8=t)),.bl (decide (3=t)),.bl (decide (2=t)),.bl (decide (4=t)),.bl (decide (9=t)),.bl (decide (13=t)),.bl (decide (7=t)),.bl (decide (6=t)),.bl (decide (12=t))]):=b3 ▸ Yv a4 a9;rw [show upd H9 b8 (.lst ([.bl (decide (8=t)),.bl (decide (3=t)),.bl (decide (2=t)),.bl (decide (4=t)),.bl (decide (9=t)),.bl (decide (13=t)),.bl (decide (7=t)),.bl (decide (6=t)),.bl (decide (12=t))] ++ [.bl (decide (5=t)),.bl (decide (1=t)),.bl (decide (11=t))]))=U from b3]
 refine ⟨_,rfl,?_⟩;refine ⟨_,rfl,e,_,_,_,_,decide (14=t),rfl,rfl,b6,B.xc,B.k 14 (by decide) (by decide),?_⟩;refine ⟨_,rfl,e,_,_,_,_,decide (10=t),rfl,rfl,b6,B.xc,B.k 10 (by decide) (by decide),?_⟩;refine ⟨by first | decide | exact Yy (by simp),fun f3 a7=>?_⟩;obtain ⟨O,b4⟩:∃ O,upd U f3 (.lst [.bl (decide (14=t)),.bl (decide (10=t))])=O:=⟨_,rfl⟩;have g0:O e=some (.ext (IsXD e (c t) dv)):=b4 ▸ Yv b6 a7;have g1:Same H O:=b4 ▸ Wq f8 a7;have b2:O f3=some (.lst [.bl (decide (14=t)),.bl (decide (10=t))]):=b4 ▸ Qj;have b7:O p3=some (.lst (List.map V.str ["book", "deed", "house", "letter", "manner", "name", "plan", "road", "row", "stand", "table"] ++ List.map V.str ["text", "short", "many"])):=b4 ▸ Yv b5 a7;have Y:O b8=some (.lst [.bl (decide (8=t)),.bl (decide (3=t)),.bl (decide (2=t)),.bl (decide (4=t)),.bl (decide (9=t)),.bl (decide (13=t)),.bl (decide (7=t)),.bl (decide (6=t)),.bl (decide (12=t)),.bl (decide (5=t)),.bl (decide (1=t)),.bl (decide (11=t))]):=b4 ▸ Yv b0 a7
 rw [show upd U f3 (.lst (_))=O from b4];refine ⟨_,_,_,_,rfl,rfl,Y,b2,(by first | decide | exact Yy (by simp)),fun f4 a6=>?_⟩;obtain ⟨Z,b1⟩:∃ Z,upd O f4 (.lst [.bl (decide (8=t)),.bl (decide (3=t)),.bl (decide (2=t)),.bl (decide (4=t)),.bl (decide (9=t)),.bl (decide (13=t)),.bl (decide (7=t)),.bl (decide (6=t)),.bl (decide (12=t)),.bl (decide (5=t)),.bl (decide (1=t)),.bl (decide (11=t)),.bl (decide (14=t)),.bl (decide (10=t))])=Z:=⟨_,rfl⟩;have J:Z e=some (.ext (IsXD e (c t) dv)):=b1 ▸ Yv g0 a6;have a2:Same H Z:=b1 ▸ Wq g1 a6;have q:Z f4=some (.lst [.bl (decide (8=t)),.bl (decide (3=t)),.bl (decide (2=t)),.bl (decide (4=t)),.bl (decide (9=t)),.bl (decide (13=t)),.bl (decide (7=t)),.bl (decide (6=t)),.bl (decide (12=t)),.bl (decide (5=t)),.bl (decide (1=t)),.bl (decide (11=t)),.bl (decide (14=t)),.bl (decide (10=t))]):=b1 ▸ Qj;have I:Z p3=some (.lst (List.map V.str ["book", "deed", "house", "letter", "manner", "name", "plan", "road", "row", "stand", "table"] ++ List.map V.str ["text", "short", "many"])):=b1 ▸ Yv b7 a6
 have f7:Z b8=some (.lst [.bl (decide (8=t)),.bl (decide (3=t)),.bl (decide (2=t)),.bl (decide (4=t)),.bl (decide (9=t)),.bl (decide (13=t)),.bl (decide (7=t)),.bl (decide (6=t)),.bl (decide (12=t)),.bl (decide (5=t)),.bl (decide (1=t)),.bl (decide (11=t))]):=b1 ▸ Yv Y a6;rw [show upd O f4 (.lst ([.bl (decide (8=t)),.bl (decide (3=t)),.bl (decide (2=t)),.bl (decide (4=t)),.bl (decide (9=t)),.bl (decide (13=t)),.bl (decide (7=t)),.bl (decide (6=t)),.bl (decide (12=t)),.bl (decide (5=t)),.bl (decide (1=t)),.bl (decide (11=t))] ++ [.bl (decide (14=t)),.bl (decide (10=t))]))=Z from b1];simp only [kdL,D4,Prod.mk.injEq,F6,or_false] at hm;rcases hm with ⟨rfl,rfl⟩ | ⟨rfl,rfl⟩ | ⟨rfl,rfl⟩ | ⟨rfl,rfl⟩
 ·refine ⟨_,rfl,.inl ⟨rfl,_,.inl (.inl q)⟩,_,[false,true,false,false,false,false,false,false,false,false,false,false,false,false],rfl,rfl,q,rfl,_,rfl,Q16 ?_⟩;refine ⟨_,rfl,e,_,_,_,_,true,rfl,rfl,J,B.xc,W0,_,rfl,Q16 ?_⟩;refine ⟨_,rfl,e,_,_,_,_,true,rfl,rfl,J,B.xc,B.ve,_,rfl,Q16 ?_⟩;refine ⟨_,rfl,?_⟩;refine ⟨_,rfl,.inl ⟨rfl,_,.inl (.inl q)⟩,_,[false,true,false,false,false,false,false,false,false,false,false,false,false,false],1,rfl,rfl,q,by decide,rfl,noB _ _ (by decide) (by decide),?_⟩;refine ⟨_,_,_,_,rfl,rfl,.inl (.inl I),rfl,?_⟩;exact hQ _ a2
 ·refine ⟨_,rfl,.inl ⟨rfl,_,.inl (.inl q)⟩,_,[false,false,true,false,false,false,false,false,false,false,false,false,false,false],rfl,rfl,q,rfl,_,rfl,Q16 ?_⟩;refine ⟨_,rfl,e,_,_,_,_,true,rfl,rfl,J,B.xc,W0,_,rfl,Q16 ?_⟩;refine ⟨_,rfl,e,_,_,_,_,true,rfl,rfl,J,B.xc,B.ve,_,rfl,Q16 ?_⟩;refine ⟨_,rfl,?_⟩;refine ⟨_,rfl,.inl ⟨rfl,_,.inl (.inl q)⟩,_,[false,false,true,false,false,false,false,false,false,false,false,false,false,false],2,rfl,rfl,q,by decide,rfl,noB _ _ (by decide) (by decide),?_⟩;refine ⟨_,_,_,_,rfl,rfl,.inl (.inl I),rfl,?_⟩;exact hQ _ a2
 ·refine ⟨_,rfl,.inl ⟨rfl,_,.inl (.inl q)⟩,_,[false,false,false,true,false,false,false,false,false,false,false,false,false,false],rfl,rfl,q,rfl,_,rfl,Q16 ?_⟩;refine ⟨_,rfl,e,_,_,_,_,true,rfl,rfl,J,B.xc,W0,_,rfl,Q16 ?_⟩;refine ⟨_,rfl,e,_,_,_,_,true,rfl,rfl,J,B.xc,B.ve,_,rfl,Q16 ?_⟩;refine ⟨_,rfl,?_⟩;refine ⟨_,rfl,.inl ⟨rfl,_,.inl (.inl q)⟩,_,[false,false,false,true,false,false,false,false,false,false,false,false,false,false],3,rfl,rfl,q,by decide,rfl,noB _ _ (by decide) (by decide),?_⟩;refine ⟨_,_,_,_,rfl,rfl,.inl (.inl I),rfl,?_⟩;exact hQ _ a2
 ·refine ⟨_,rfl,.inl ⟨rfl,_,.inl (.inl q)⟩,_,[false,false,false,false,false,false,false,false,false,false,true,false,false,false],rfl,rfl,q,rfl,_,rfl,Q16 ?_⟩;refine ⟨_,rfl,e,_,_,_,_,true,rfl,rfl,J,B.xc,W0,_,rfl,Q16 ?_⟩;refine ⟨_,rfl,e,_,_,_,_,true,rfl,rfl,J,B.xc,B.ve,_,rfl,Q16 ?_⟩;refine ⟨_,rfl,?_⟩;refine ⟨_,rfl,.inl ⟨rfl,_,.inl (.inl q)⟩,_,[false,false,false,false,false,false,false,false,false,false,true,false,false,false],10,rfl,rfl,q,by decide,rfl,noB _ _ (by decide) (by decide),?_⟩;refine ⟨_,_,_,_,rfl,rfl,.inl (.inl I),rfl,?_⟩;exact hQ _ a2
def J1 (C:aA):FN:=fun ps st=>match (X8 C) ps st with
 | .ok v st1=>.ok (.str "") st1
 | .exc x st1=>if x.cls = "NoDeed" then .ok (.str "deed") st1 else if x.cls = "NoHouse" then .ok (.str "house") st1 else if x.cls = "NoLetter" then .ok (.str "letter") st1 else if x.cls = "NoTable" then .ok (.str "table") st1 else .stuck
 | .stuck=>.stuck
theorem sc__law_acaught:FnScope ["table", "deeds", "caught", "e"] ["table", "deeds"] (Q7 qh):=⟨rfl,rfl,rfl,by decide +kernel,rfl,by decide +kernel,by decide +kernel⟩
theorem Q3x (F:Fun K "_law_acaught" "_law_acaught" qh f fd) (T:Txt mg) (TC:ClsT K C) (Nm:Nms mg c) (TT:∀ t wd,(t,wd)∈kdL->TgtS K c t/\PySem.W.kitOne K (.ref (c t)) (.ref (c 0))=some true) (G:DefS P w K mg base 10 "played" 2 (X8 C)) (q:DefX P w K mg base 1 "_law_akind" ["caught"] (Qvn c)):FnOk P w K mg base (CXD P w) 11 f fd ["table", "deeds"] (spF mg 2 (J1 C)):=by
 obtain ⟨fR,b1,b2,FR,mR,kR,bR,lR⟩:=G.ex;obtain ⟨fX,b0,FX,mX,kX,bX⟩:=q.ex;refine Fun.okD (k:=10) F sc__law_acaught (fun vs H Q E h=>h.1) fun a9 A outer s H vs Q E hr a7=>?_
 obtain ⟨hl,ρ,a5,a6,R,rl,B⟩:=a7;refine ⟨_,zg (Q95 (i:=2) sc__law_acaught.nd rfl (Or.inl rfl) Qcf)
   (zg (Qf7 FR (hr.mono (by decide)) mR kR bR (Qu (pv 0) (Qu (pv 1) Yg)) sc__law_acaught.nd (i:=3) rfl rfl (fun e=>yn (Q95 (i:=2) sc__law_acaught.nd rfl (Or.inl rfl) (pv 3))) Nm.m0)
   (zg (Qia (Q93 Qta (pv 2) Qcf (Q5p _)) (yn (Q5a qp)) Q94)
   (yn (Q5a (Qdr (x := "_law_akind") (E:=E) FX (hr.mono (by decide)) (by rfl) mX kX bX .nil Q0a (Qu (pv 2) Yg)))))),?_⟩
 match vs,hl with
 | [v0,v1],hl=>
 refine ⟨_,rfl,_,rfl,  rfl,ρ,a5,a6,R,rl,?_⟩;unfold J1 at B;cases hr:(X8 C) a6 a5 with
 | ok a a8=>
  rw [hr] at B;exact fun H1 ρ1 U Y v r=>⟨_,rfl,rfl,_,rfl,Qze (B H1 ρ1 U Y _ rfl)⟩
 | stuck=>
  rw [hr] at B; exact B.elim
 | exc x a8=>
  rw [hr] at B;dsimp only at B
  by_cases a4:x.cls = "NoDeed"
  ·rw [bN a4] at B;intro C dv H1 ρ1 J U Y fs;rw [a4,Nm.m3] at J;cases J;refine ⟨_,rfl,(TT 3 "deed" (by simp [kdL])).1.ex,fun e O=>?_⟩;have x2:Ext H1 ρ1 (upd H1 e (.ext (IsXD e (c 3) dv))) ρ1:=Ext.add O;have R2:=Y.add (o:=.ext (IsXD e (c 3) dv)) O;refine ⟨_,rfl,_,rfl,rfl,_,rfl,Q16 ?_⟩;exact ⟨_,rfl,e,dv,3, "deed",rfl,by simp [kdL],Qj,fun H2 I=>B _ _ ((U.trans x2).trans (Ext.same I)) (R2.same I) _ rfl⟩
  ·rw [bO a4] at B
   by_cases Z:x.cls = "NoHouse"
   ·rw [bN Z] at B;intro C dv H1 ρ1 J U Y fs;rw [Z,Nm.m2] at J;cases J;refine ⟨_,rfl,(TT 2 "house" (by simp [kdL])).1.ex,fun e O=>?_⟩;have x2:Ext H1 ρ1 (upd H1 e (.ext (IsXD e (c 2) dv))) ρ1:=Ext.add O;have R2:=Y.add (o:=.ext (IsXD e (c 2) dv)) O;refine ⟨_,rfl,_,rfl,rfl,_,rfl,Q16 ?_⟩;exact ⟨_,rfl,e,dv,2, "house",rfl,by simp [kdL],Qj,fun H2 I=>B _ _ ((U.trans x2).trans (Ext.same I)) (R2.same I) _ rfl⟩
   ·rw [bO Z] at B
    by_cases a2:x.cls = "NoLetter"
    ·rw [bN a2] at B;intro C dv H1 ρ1 J U Y fs;rw [a2,Nm.m4] at J;cases J;refine ⟨_,rfl,(TT 4 "letter" (by simp [kdL])).1.ex,fun e O=>?_⟩;have x2:Ext H1 ρ1 (upd H1 e (.ext (IsXD e (c 4) dv))) ρ1:=Ext.add O;have R2:=Y.add (o:=.ext (IsXD e (c 4) dv)) O;refine ⟨_,rfl,_,rfl,rfl,_,rfl,Q16 ?_⟩;exact ⟨_,rfl,e,dv,4, "letter",rfl,by simp [kdL],Qj,fun H2 I=>B _ _ ((U.trans x2).trans (Ext.same I)) (R2.same I) _ rfl⟩
    ·rw [bO a2] at B
     by_cases a3:x.cls = "NoTable"
     ·rw [bN a3] at B;intro C dv H1 ρ1 J U Y fs;rw [a3,Nm.m1] at J;cases J;refine ⟨_,rfl,(TT 1 "table" (by simp [kdL])).1.ex,fun e O=>?_⟩;have x2:Ext H1 ρ1 (upd H1 e (.ext (IsXD e (c 1) dv))) ρ1:=Ext.add O;have R2:=Y.add (o:=.ext (IsXD e (c 1) dv)) O;refine ⟨_,rfl,_,rfl,rfl,_,rfl,Q16 ?_⟩;exact ⟨_,rfl,e,dv,1, "table",rfl,by simp [kdL],Qj,fun H2 I=>B _ _ ((U.trans x2).trans (Ext.same I)) (R2.same I) _ rfl⟩
     ·rw [bO a3] at B;exact B.elim
def Xs : MS := (Qf (Qz 3 (mOp oIx (Kv (Q0 (Q3 1) (Q0 (xg (mC (.int 1))) (Q0 (mOp Q40 (mC (.int 10)) (mC (.int 29))) Q4)))) (Qc 2 Q8 (Q0 (Q3 0) (Q0 (mC (.int 3)) Q4)))))
  (Qf (Qz 4 (Kv (Q0 (Y2 (Q0 (mC (.str "give")) (Q0 (mC (.int 0)) (Q0 (mC (.int 1)) Q4)))) (Q0 (Y2 (Q0 (mC (.str "make")) (Q0 (mC (.int 0)) Q4))) (Q0 (Y2 (Q0 (mC (.str "make")) (Q0 (mC (.int 0)) (Q0 (mC (.int 1)) (Q0 (mC (.int 1)) Q4))))) (Q0 (Y2 (Q0 (mC (.str "make")) (Q0 (mC (.int 0)) (Q0 (mC (.int 0)) Q4)))) (Q0 (Y2 (Q0 (mC (.str "make")) (Q0 (Q3 3) (Q0 (xg (mC (.int 1))) Q4)))) (Q0 (Y2 (Q0 (mC (.str "use")) (Q0 (mC (.int 0)) (Q0 (mC (.int 0)) Q4)))) Q4))))))))
  (Qf (Qz 4 (mOp Yb (Q3 4) (Kv (Q0 (Y2 (Q0 (mC (.str "use")) (Q0 (mC (.str "0")) (Q0 (mC (.int 1)) Q4)))) (Q0 (Y2 (Q0 (mC (.str "use")) (Q0 (mC (.int 0)) (Q0 (mC (.bl true)) Q4)))) (Q0 (Y2 (Q0 (mC (.str "lend")) (Q0 (mC (.int 0)) (Q0 (mC (.int 0)) (Q0 (mC (.int 0)) Q4))))) (Q0 (Y2 (Q0 (mC (.str "lend")) (Q0 (Q3 3) (Q0 (Q3 3) (Q0 (xg (mC (.int 5))) Q4))))) (Q0 (Y2 (Q0 (mC (.str "lend")) (Q0 (mC (.int 0)) (Q0 (mC (.int 1)) Q4)))) Q4))))))))
  (Qf (Qz 4 (mOp Yb (Q3 4) (Kv (Q0 (Y2 (Q0 (mC (.str "keep")) Q4)) (Q0 (Y2 (Q0 (mC (.str "keep")) (Q0 (mC (.int 0)) (Q0 (mC (.int 0)) Q4)))) (Q0 (Y2 (Q0 (mC (.str "fall")) (Q0 (mC .non) Q4))) (Q0 (Y2 (Q0 (mC (.str "send")) Q4)) (Q0 (Y2 (Q0 (mC (.str "come")) (Q0 (mC (.int 0)) Q4))) (Q0 (Y2 (Q0 (mC (.str "come")) (Q0 (mC (.str "0")) (Q0 (mC (.int 0)) Q4)))) (Q0 (Y2 Q4) (Q0 (Y2 (Q0 (mC (.str "")) Q4)) Q4)))))))))))
  (Qf (Qz 5 (Kv (Q0 (Y2 (Q0 (mC (.str "make")) (Q0 (Q3 3) (Q0 (mC (.int 1)) Q4)))) (Q0 (Y2 (Q0 (mC (.str "use")) (Q0 (Q3 3) (Q0 (mOp Q40 (mC (.int 10)) (mC (.int 20))) Q4)))) (Q0 (Y2 (Q0 (mC (.str "lend")) (Q0 (mC (.int 0)) (Q0 (Q3 3) (Q0 (mOp Q40 (mC (.int 10)) (mC (.int 20))) Q4))))) (Q0 (Y2 (Q0 (mC (.str "lend")) (Q0 (Q3 3) (Q0 (mC (.int 0)) (Q0 (mC (.int 1)) Q4))))) Q4))))))
  (Qf (Qz 5 (mOp Yb (Q3 5) (Kv (Q0 (Y2 (Q0 (mC (.str "lend")) (Q0 (Q3 3) (Q0 (Q3 3) (Q0 (mC (.int 1)) Q4))))) Q4))))
  (Qf (Qz 5 (mOp Yb (Q3 5) (Kv (Q0 (Y2 (Q0 (mC (.str "lend")) (Q0 (mOp (oI fun a b=>.int (a - b)) (Q3 1) (mC (.int 1))) (Q0 (mOp (oI fun a b=>.int (a - b)) (Q3 1) (mC (.int 1))) (Q0 (mOp Q40 (mC (.int 10)) (mC (.int 20))) Q4))))) (Q0 (Y2 (Q0 (mC (.str "keep")) (Q0 (Q3 3) Q4))) (Q0 (Y2 (Q0 (mC (.str "fall")) (Q0 (Q3 3) Q4))) (Q0 (Y2 (Q0 (mC (.str "send")) (Q0 (Q3 3) Q4))) Q4)))))))
  (Qf (Qz 5 (mOp Yb (Q3 5) (Kv (Q0 (Y2 (Q0 (mC (.str "come")) (Q0 (mOp Yb (Q3 2) (mC (.int 2))) (Q0 (Q3 3) Q4)))) (Q0 (Y2 (Q0 (mC (.str "come")) (Q0 (xg (mC (.int 1))) (Q0 (Q3 3) Q4)))) Q4)))))
  (Qf (Qz 6 (Kv (Q0 (Y2 (Q0 (mC (.str "come")) (Q0 (Q3 2) (Q0 (mC (.int 0)) Q4)))) (Q0 (Y2 (Q0 (mC (.str "come")) (Q0 (mOp Yb (Q3 2) (mC (.int 7))) (Q0 (mOp (oI fun a b=>.int (a - b)) (Q3 1) (mC (.int 1))) Q4)))) (Q0 (Y2 (Q0 (mC (.str "come")) (Q0 (xg (mC (.int 1))) (Q0 (mC (.int 0)) Q4)))) (Q0 (Y2 (Q0 (mC (.str "come")) (Q0 (mOp Q40 (mC (.int 10)) (mC (.int 29))) (Q0 (mC (.int 0)) Q4)))) Q4))))))
  (Qf (Qz 7 (Qc 2 Q8 (Q0 (Q3 0) (Q0 (mC (.int 3)) Q4))))
  (Qf (Qz 8 (mOp oIx (Kv (Q0 (Q3 4) (Q0 (Q3 5) (Q0 (Q3 6) Q4)))) (Q3 7)))
  (Jv (Y2 (Q0 (mOp oIx (Q3 8) (Qc 2 Q8 (Q0 (Q3 0) (Q0 (Qw Zt (Q0 (Q3 8) Q4)) Q4)))) (Q0 (mOp oIx (Kv (Q0 (mC (.str "deed")) (Q0 (mC (.str "house")) (Q0 (mC (.str "letter")) Q4)))) (Q3 7)) Q4)))))))))))))))
def Wc:FN:=Qh Xs 9
theorem Q5g (F:Fun K "_law_awrong" "_law_awrong" jk f fd) (T:Txt mg)  (q:DefS P w K mg base 1 "_law_adigit" 2 Q8):FnOk P w K mg base (CXD P w) 2 f fd ["tape", "size", "letters"] (spF mg 3 Wc):=by
 have:FnScope ["tape", "size", "letters", "far", "bad", "none", "late", "way", "some"] ["tape", "size", "letters"] (Q7 jk):=by fail "c"
 delta Wc Xs
 fail "k"
def Q9n (C:aA):ME:=(Q3 0)
def Q48 (C:aA):MT:=(toB (mOp oEq (mOp oIx (Q3 0) (mC (.int 0))) (mC (.str "send"))))
def Q4p (C : aA) : MS := (Qf (Qz 7 (Qc 2 Zv (Q0 (Q3 0) (Q0 (Q3 6) Q4))))
  (Qf (Qz 8 (Qc 2 Q8 (Q0 (Q3 7) (Q0 (mOp Yb (Qw Zt (Q0 (Q3 3) Q4)) (mC (.int 1))) Q4))))
  (Qf (Qz 9 (Qw Zt (Q0 (Xh (Y3 [none] (Qg 0) (Q03 (mSl (Q3 3) Ym (Wm (Q3 8)))) (Q48 C) (Q9n C))) Q4)))
  (Qf (Qfz (Kh (Y5 (Qg 10) (Y5 (Qg 11) Ki))) (Qc 3 Wc (Q0 (Q3 7) (Q0 (Q3 2) (Q0 (Q3 9) Q4)))))
  (Qf (Qfz (Kh (Y5 (Qg 12) (Y5 (Qg 13) Ki))) (Qc 3 Wc (Q0 (Q3 7) (Q0 (Q3 2) (Q0 (Q3 9) Q4)))))
  (Qf (Ye (toB (mOp oNe (Qc 2 (J1 C) (Q0 (Q3 1) (Q0 (mOp Yb (mOp Yb (mSl (Q3 3) Ym (Wm (Q3 8))) (Kv (Q0 (Q3 10) Q4))) (mSl (Q3 3) (Wm (Q3 8)) Ym)) Q4))) (Q3 11))) (Jv (mC (.bl false))) Zw)
  (Qf (Ye (toB (mOp oNe (Qc 2 (J1 C) (Q0 (Q3 1) (Q0 (mOp Yb (mSl (Q3 3) Ym (Wm (Q3 8))) (Kv (Q0 (Q3 10) (Q0 (Q3 12) Q4)))) Q4))) (Q3 11))) (Jv (mC (.bl false))) Zw)
  (Qf (Qz 14 (Qc 4 J6 (Q0 (Q3 1) (Q0 (mC (.int 0)) (Q0 (Q3 2) (Q0 (mOp Yb (mC (.int 1)) (Qw Q3c (Q0 (mC (.int 0)) (Q0 (Qc 2 J0 (Q0 (Q3 1) (Q0 (mC (.int 0)) Q4))) Q4)))) Q4))))))
  (Ye (toB (mOp oNe (Qc 2 (J1 C) (Q0 (Q3 14) (Q0 (mOp Yb (mSl (Q3 3) Ym (Wm (Q3 8))) (Kv (Q0 (Q3 10) Q4))) Q4))) (mC (.str "table")))) (Jv (mC (.bl false))) Zw)))))))))
def Qe2 (C : aA) : MS := (Qf (Qz 1 (Qc 1 Ua (Q0 (Q3 0) Q4)))
  (Qf (Qz 2 (Qw Zt (Q0 (Q3 1) Q4)))
  (Qf (Qfz (Kh (Y5 (Qg 3) (Y5 (Qg 4) (Y5 (Qg 5) Ki)))) (Qc 4 Vp (Q0 (Q3 0) (Q0 (mC (.int 1)) (Q0 (mC (.int 5)) (Q0 (Q3 1) Q4))))))
  (Qf (Ye (toB (mOp oNe (Qc 2 (J1 C) (Q0 (Q3 1) (Q0 (Q3 3) Q4))) (mC (.str "")))) (Jv (mC (.bl false))) Zw)
  (Qf (Q62 (Qg 6) (xb (Q0 (mC (.int 6)) (Q0 (Qw Q3c (Q0 (mC (.int 14)) (Q0 (Qw Qgq (Q0 (mC (.int 30)) (Q0 (Qw Zt (Q0 (Q3 0) Q4)) Q4))) Q4))) Q4))) (Q4p C))
  (Jv (mC (.bl true))))))))
def Qkv (C:aA):FN:=Qh (Qe2 C) 15
theorem Qtc (F:Fun K "law" "law" Q1z f fd) (T:Txt mg) (Z:ClsT K C)  (J:DefS P w K mg base 4 "_law_abegun" 1 Ua) (q:DefS P w K mg base 4 "_law_aplayed" 4 Vp) (B:DefS P w K mg base 11 "_law_acaught" 2 (J1 C)) (Y:DefS P w K mg base 2 "_law_atape" 2 Zv) (U:DefS P w K mg base 1 "_law_adigit" 2 Q8) (O:DefS P w K mg base 2 "_law_awrong" 3 Wc) (I:DefS P w K mg base 1 "_law_araised" 4 J6) (G:DefS P w K mg base 1 "_law_arights" 2 J0):FnOk P w K mg base (CXD P w) 12 f fd ["script"] (spF mg 1 (Qkv C)):=by
 have:FnScope ["script", "start", "size", "deeds", "answers", "state", "k", "tape", "at", "letters", "wrong", "word", "second", "other", "table"] ["script"] (Q7 Q1z):=by fail "c"
 delta Qkv Qe2 Q4p Q48 Q9n
 fail "k"
end
theorem Q4m (a:Int) (h:0 < b):0<=a % b/\a % b < b:=⟨Int.emod_nonneg a (by omega),Int.emod_lt_of_pos a h⟩
def Qt (r:List Int):PV:=.tup (r.map .int)
def Q5 (tb:List (List Int)):PV:=.tup (tb.map Qt)
theorem Qd9 (xs:List α) (p:α->Bool):(xs.map p).all id=xs.all p:=by
 rw [List.all_map]; rfl
structure Wt' (n:Nat) (tb:List (List Int)):Prop where
 len:tb.length=n
 row:∀ r∈tb,r.length=n + 1
 nn:∀ r∈tb,∀ x∈r,(0:Int)<=x
 n1:1<=n
 n8:n<=8
def W4 (n:Nat) (f:Nat->Int):Int:=((List.range n).map f).sum
theorem Jh (n:Nat) (f:Nat->Int):W4 (n + 1) f=W4 n f + f n:=by
 unfold W4;rw [List.range_succ,F3,List.sum_append];simp
theorem Ud {f g:Nat->Int} (h:∀ i,i < n->f i=g i):W4 n f=W4 n g:=by
 induction n with
 | zero=>rfl
 | succ n q=>rw [Jh,Jh,q fun i hi=>h i (by omega),h n (by omega)]
theorem Qa3 (n:Nat) (f g:Nat->Int):W4 n (fun i=>f i + g i)=W4 n f + W4 n g:=by
 induction n with
 | zero=>rfl
 | succ n q=>rw [Jh,Jh,Jh,q]; omega
theorem Qh6 (n:Nat) (f g:Nat->Int):W4 n (fun i=>f i - g i)=W4 n f - W4 n g:=by
 induction n with
 | zero=>rfl
 | succ n q=>rw [Jh,Jh,Jh,q]; omega
theorem Q2n (n:Nat):W4 n (fun _=>0)=0:=by
 induction n with
 | zero=>rfl
 | succ n q=>rw [Jh,q]; rfl
theorem Q3e {f:Nat->Int} (h:∀ i,i < n->0<=f i):0<=W4 n f:=by
 induction n with
 | zero=>exact Int.le_refl _
 | succ n q=>rw [Jh]; have:=q fun i hi=>h i (by omega); have:=h n (by omega); omega
theorem Qay {β:Type} (l:List α) (d:α) (f:α->β):l.map f=(List.range l.length).map fun i=>f (l.getD i d):=by
 refine List.ext_getElem? fun i=>?_
 rw [E5,E5]
 by_cases hi:i < l.length
 ·rw [List.getElem?_range hi,getD_some hi d]; rfl
 ·rw [List.getElem?_eq_none (by omega),List.getElem?_eq_none (by rw [G9]; omega)]; rfl
theorem Qa6 (r:List Int):r.sum=W4 r.length fun j=>r.getD j 0:=by
 have:=Qay r 0 id;rw [List.map_id] at this;rw [W4]
 conv=>lhs; rw [this]
 rfl
def ent (tb:List (List Int)) (i j:Nat):Int:=(tb.getD i []).getD j 0
def Sz (n:Nat) (tb:List (List Int)):Prop:=tb.length=n/\∀ r∈tb,r.length=n + 1
theorem Wt'.sz (w:Wt' n tb):Sz n tb:=⟨w.len,w.row⟩
theorem Sz.row {i:Nat} (z:Sz n tb) (hi:i < n):tb[i]?=some (tb.getD i [])/\(tb.getD i []).length=n + 1:=by
 have e:=getD_some (show i < tb.length by rw [z.1]; exact hi) [];exact ⟨e,z.2 _ (D6 e)⟩
theorem Sz.cell {i:Nat} (z:Sz n tb) (hi:i < n) (q:j<=n):(tb.getD i [])[j]?=some (ent tb i j):=getD_some (by rw [(z.row hi).2]; omega) 0
theorem Wt'.ent_nn {i:Nat} (w:Wt' n tb) (hi:i < n) (q:j<=n):0<=ent tb i j:=w.nn _ (D6 (w.sz.row hi).1) _ (D6 (w.sz.cell hi q))
theorem Wt'.of_ent (z:Sz n tb) (h1:1<=n) (B:n<=8) (h:∀ i j,i < n->j<=n->0<=ent tb i j):Wt' n tb:=by
 refine ⟨z.1,z.2,fun r q x I=>?_,h1,B⟩;obtain ⟨i,hi,e⟩:=List.mem_iff_getElem.mp q;obtain ⟨j,J,e2⟩:=List.mem_iff_getElem.mp I;have hl:=z.2 r q;have:=h i j (by rw [<- z.1]; exact hi) (by omega);have e3:tb.getD i []=r:=by rw [List.getD,O5 hi,e]; rfl
 have G:r.getD j 0=x:=by rw [List.getD,O5 J,e2]; rfl
 unfold ent at this;rw [e3,G] at this;exact this
theorem Kw (i:Int) (st:Q1):Zr [.int i] st=.ok (.bl true) st:=by
 simp [Zr,Qh,Xf,isI,tyN]
theorem Q7m (a b c:Int) (st:Q1):Vw [.int a,.int b,.int c] st=.ok (.bl (decide (b<=a) && decide (a<=c))) st:=by
 by_cases h:b<=a <;> simp [Vw,Qh,yx,Kw,h]
theorem Vk {V:PV} (q:Zt st [V]=.ok (.int n) st) (i:Int):Ze [V,.int i] st=.ok (.bl (decide (0<=i) && decide (i < n))) st:=by
 have e:decide (i<=(n:Int) - 1)=decide (i < (n:Int)):=by
  rw [decide_eq_decide]; omega
 simp [Ze,Qh,Q1n,q,Q7m,e]
theorem Q9h {V:PV} {i:Nat} (q:Zt st [V]=.ok (.int n) st) (hi:i < n):Ze [V,.int i] st=.ok (.bl true) st:=by
 rw [Vk q];simp; omega
def Zu (k:Nat):PV:=.int (k:Int)
theorem Qpt {r:Nat} {hs:List Int} (B:n<=r) (h:S[r]?=some (.lst (hs.map .int))):fz n S 16 (.ref r)=some (.lst (hs.map .int)):=by
 have q:Zq 12 (.lst (hs.map .int))=true:=by simp [Zq]
 have:=Q2f (n:=n) (st:=S) (k:=16) q (by decide);rw [fz,bO (by omega),h];simpa [fz] using this
def Qi (tb:List (List Int)) (h:Nat):Int:=W4 tb.length (fun o=>ent tb o h) - ((tb.getD h []).sum - ent tb h h)
theorem qk {h:Nat} (z:Sz n tb) (q:h < n):Qi tb h=W4 n (fun o=>ent tb o h) - (W4 n (fun j=>ent tb h j) + ent tb h n - ent tb h h):=by
 unfold Qi;rw [z.1,Qa6 (tb.getD h []),(z.row q).2,Jh];rfl
theorem Q7w {h:Nat} (z:Sz n tb) (Z:n<=100) (B:h < n) (st:Q1):Vn [Q5 tb,.int h] st=.ok (.int (Qi tb h)) st:=by
 have O:=Q9h (V:=Q5 tb) (n:=n) (i:=h) (st:=st) (by simp [Q5,z.1]) B;have G:Jf (Qg 0) Zg xn [] (Zc [none,some 1] [some (Q5 tb),some (.int h),none,none,none]) (tb.map Qt) st=.ok (tb.map fun r=>.int (r.getD h 0)) st:=by
  refine Yf _ _ (by simp) fun r I=>⟨_,rfl,?_⟩
  have e:=atI_get (getD_some (show h < r.length by rw [z.2 r I]; omega) 0);simp [Zc,xn,Qt,Xw,e]
 have e1:=atI_get (z.row B).1;have e2:=atI_get (z.cell B (E8 B));have hs:(tb.map fun r=>r.getD h 0).sum=W4 n fun o=>ent tb o h:=by
  rw [Qay tb [] fun r=>r.getD h 0,z.1]; rfl
 have hl:tb.length<=1000000:=by rw [z.1]; omega
 unfold Qi;rw [z.1,<- hs];obtain ⟨r,I⟩:∃ r,tb.getD h []=r:=⟨_,rfl⟩;obtain ⟨x,Y⟩:∃ x,ent tb h h=x:=⟨_,rfl⟩;rw [I] at e1 e2 ⊢;rw [Y] at e2 ⊢;obtain ⟨q,U⟩:∃ q,(tb.map fun r=>r.getD h 0)=q:=⟨_,rfl⟩;have J:(tb.map fun r=>PV.int (r.getD h 0))=q.map .int:=by rw [<- U,L5]; rfl
 rw [J] at G;rw [U];unfold Q5 at O G ⊢;simp [Vn,Qh,Q5u,O,G,hl,Ju,Xw,e1,Qt,e2]
theorem xt {i:Nat} (z:Sz n tb) (hi:i < n) (q:j<=n) (st:Q1):oIx st (Q5 tb) (.int i)=.ok (Qt (tb.getD i [])) st/\oIx st (Qt (tb.getD i [])) (.int j)=.ok (.int (ent tb i j)) st:=by
 constructor
 ·unfold Q5; rw [Q9a,Xw,atI_get (z.row hi).1]; rfl
 ·unfold Qt; rw [Q9a,Xw,atI_get (z.cell hi q)]; rfl
def Q00 (tb:List (List Int)) (h:Nat):Bool:=decide (0 < ent tb h h)
theorem Qp4 {h:Nat} (z:Sz n tb) (q:h < n) (st:Q1):Up [Q5 tb,.int h] st=.ok (.bl (Q00 tb h)) st:=by
 obtain ⟨G,B⟩:=xt z q (E8 q) st;unfold Q00;generalize ent tb h h=x at *;generalize tb.getD h []=r at *;simp [Up,Qh,Q0f,G,B]
def U9 (tb:List (List Int)) (h:Nat):Bool:=decide (ent tb h h < (tb.getD h []).sum)
theorem Qq4 {h:Nat} (z:Sz n tb) (q:h < n) (st:Q1):Ya [Q5 tb,.int h] st=.ok (.bl (U9 tb h)) st:=by
 obtain ⟨I,G⟩:=xt z q (E8 q) st;unfold U9;generalize ent tb h h=x at *;generalize tb.getD h []=r at *;have B:X6 (fun ns=>some (.int ns.sum)) st [Qt r]=.ok (.int r.sum) st:=by unfold Qt; rw [Qgr]; rfl
 simp [Ya,Qh,U4,I,G,B]
def Qb3 (tb:List (List Int)) (h:Nat) (ls:List Nat):Bool:=ls.any fun o=>decide (o≠h) && decide (0 < ent tb o h)
theorem Qkr (xs:List α) (p:α->Bool):(xs.map p).any id=xs.any p:=by
 rw [List.any_map]; rfl
theorem Qpd {h:Nat} (z:Sz n tb) (Z:h < n) (hl:∀ o∈ls,o < n) (I:ls.length<=1000) {V:PV} (hV:ListAt st V (ls.map Zu)):W2 [Q5 tb,.int h,V] st=.ok (.bl (Qb3 tb h ls)) st:=by
 obtain ⟨w,B,hw⟩:=hV.src;have Y:Jf (Qg 0) V8 Vc w (Zc [none,some 1,some 0] [some (Q5 tb),some (.int h),some V]) (ls.map Zu) st=.ok ((ls.filter fun o=>decide (o≠h)).map fun o=>.bl (decide (0 < ent tb o h))) st:=by
  refine zq _ _ _ hw fun o J=>⟨_,rfl,?_,fun ht=>?_⟩
  ·simp [Zc,V8,Zu]
   by_cases e:o=h
   ·simp [e]
   ·have:¬ ((o:Int)=h):=by omega
    simp [e,this]
  ·obtain ⟨U,O⟩:=xt z (hl o J) (E8 Z) st;generalize ent tb o h=x at *;generalize tb.getD o []=r at *;simp [Zc,Vc,Zu,U,O]
 have q:(ls.map Zu).length<=1000000:=by rw [O2]; omega
 have G:Qb3 tb h ls=((ls.filter fun o=>decide (o≠h)).map fun o=>decide (0 < ent tb o h)).any id:=by
  rw [Qkr,List.any_filter]; rfl
 rw [G];generalize ls.map Zu=ov at *;generalize ls.filter (fun o=>decide (o≠h))=fs at *
 simp [W2,Qh,K8,B,q,Ju,Y,-List.any_map]
def yk (tb:List (List Int)) (h:Nat) (ls:List Nat):Bool:=Q00 tb h || Qb3 tb h ls
theorem Qmz {h:Nat} (z:Sz n tb) (G:h < n) (hl:∀ o∈ls,o < n) (q:ls.length<=1000) {V:PV} (I:ListAt st V (ls.map Zu)):Uk [Q5 tb,.int h,V] st=.ok (.bl (yk tb h ls)) st:=by
 have h1:=Qp4 z G st;have h2:=Qpd z G hl q I;unfold yk;cases B:Q00 tb h with
 | true=>rw [B] at h1; simp [Uk,Qh,yy,h1]
 | false=>rw [B] at h1; simp [Uk,Qh,yy,h1,h2]
theorem Qpp (hs:List Int) (x:Int):((hs.map PV.int).any fun y=>peq y (.int x))=decide (x∈hs):=by
 rw [List.any_map,Bool.eq_iff_iff,List.any_eq_true,decide_eq_true_iff];constructor
 ·rintro ⟨y,q,e⟩;have:y=x:=by simpa [peq] using e
  rw [<- this]; exact q
 ·intro h;exact ⟨x,h,by simp [peq]⟩
theorem Qqu {hs:List Int} {V:PV} (B:ListAt st V (hs.map .int)) (x:Int) (b:Bool):oIn b st (.int x) V=.ok (.bl (decide (x∈hs) != b)) st:=by
 have q:Xb st V=some (hs.map .int):=by
  rcases B with rfl | rfl | ⟨i,rfl,e⟩
  ·rfl
  ·rfl
  ·rw [Q4a,e]
 have hd:der st (.int x)=.int x:=rfl;have G:Zq dep (.int x)=true:=rfl;have g2:(hs.map PV.int).all (Zq dep)=true:=by simp [Zq,dep]
 unfold oIn;rw [q,hd];simp only [G,g2,and_self,if_true,Qpp]
theorem ListAt.sl {V:PV} (h:ListAt st V xs) (l u:Option Int):oSl st V l u=.ok (.lst (cut xs l u)) st:=by
 rcases h with rfl | rfl | ⟨i,rfl,e⟩
 ·rfl
 ·rfl
 ·unfold oSl; simp only [Qj8,e]
def Qkd (n:Nat) (tb:List (List Int)) (h:Nat):Bool:=(List.range (n + 1)).any fun j=>decide (j≠h) && decide (0 < ent tb h j)
theorem Q8t {f:Nat->Int} (q:∀ i,i < n->0<=f i) (G:j < n):f j<=W4 n f:=by
 induction n with
 | zero=>exact absurd G (Nat.not_lt_zero _)
 | succ n I=>
  rw [Jh];have B:=q n (Nat.lt_succ_self n)
  by_cases e:j=n
  ·subst e;have:=Q3e (f:=f) (n:=j) fun i hi=>q i (Nat.lt_succ_of_lt hi)
   omega
  ·have:=I (fun i hi=>q i (Nat.lt_succ_of_lt hi)) (by omega)
   omega
theorem Qh9 {h:Nat} (f:Nat->Int) (q:h < n):W4 n f=f h + W4 n fun j=>if j≠h then f j else 0:=by
 induction n with
 | zero=>exact absurd q (Nat.not_lt_zero _)
 | succ n B=>
  rw [Jh,Jh]
  by_cases e:n=h
  ·subst e;rw [bO (by simp),Ud (f:=f) (g:=fun j=>if j≠n then f j else 0) fun i hi=>by rw [bN (by omega)]]
   omega
  ·rw [bN e,B (by omega)];omega
theorem Qh7 {h:Nat} {f:Nat->Int} (J:∀ i,i < n->0<=f i) (U:h < n):f h < W4 n f <-> ∃ j,j < n/\j≠h/\0 < f j:=by
 have e:=Qh9 f U;have Y:∀ i,i < n->0<=(fun j=>if j≠h then f j else 0) i:=fun i hi=>by
  show 0<=if i≠h then f i else 0
  split
  ·exact J i hi
  ·exact Int.le_refl _
 constructor
 ·intro q;refine Classical.byContradiction fun G=>?_
  have:W4 n (fun j=>if j≠h then f j else 0)=W4 n fun _=>0:=Ud fun i hi=>by
   by_cases I:i=h
   ·rw [bO (by simp [I])]
   ·rw [bN I];have h1:=J i hi;have h2:¬ 0 < f i:=fun q=>G ⟨i,hi,I,q⟩
    omega
  rw [Q2n] at this;omega
 ·rintro ⟨j,O,B,hp⟩;have:=Q8t Y O;simp only [bN B] at this;omega
theorem Qq5 {h:Nat} (w:Wt' n tb) (G:h < n):Qkd n tb h=U9 tb h:=by
 have hs:(tb.getD h []).sum=W4 (n + 1) fun j=>ent tb h j:=by
  rw [Qa6,(w.sz.row G).2]; rfl
 have hp:=(Qh7 (n:=n + 1) (h:=h) (f:=fun j=>ent tb h j) (fun i hi=>w.ent_nn G (by omega)) (by omega))
 unfold Qkd U9;rw [hs,Bool.eq_iff_iff,List.any_eq_true,decide_eq_true_iff,hp];constructor
 ·rintro ⟨j,B,q⟩;simp at q;exact ⟨j,E6.mp B,q.1,q.2⟩
 ·rintro ⟨j,B,a,b⟩;exact ⟨j,E6.mpr B,by simp [a,b]⟩
theorem Qza (x:Int) (h:1<=n):∃ k:Nat,k < n/\x % (n:Int)=(k:Int):=by
 have:=Q4m x (b:=(n:Int)) (by omega);exact ⟨(x % (n:Int)).toNat,by omega,by omega⟩
def kn3 (tb:List (List Int)) (i:Nat) (bs:List Bool) (j:Nat):List Bool:=if bs.getD i false=true/\i≠j/\0 < ent tb i j then bs.set j true else bs
def kn2 (n:Nat) (tb:List (List Int)) (bs:List Bool) (i:Nat):List Bool:=(List.range n).foldl (kn3 tb i) bs
def kn1 (n:Nat) (tb:List (List Int)) (bs:List Bool) (_:Nat):List Bool:=(List.range n).foldl (kn2 n tb) bs
def Q9g (n:Nat) (tb:List (List Int)):List Bool:=(List.range n).map (Q00 tb)
def Q36 (n:Nat) (tb:List (List Int)):List Bool:=(List.range n).foldl (kn1 n tb) (Q9g n tb)
theorem Q6i {α β:Type} {f:List α->β->List α} (h:∀ bs x,(f bs x).length=bs.length):∀ (xs:List β) (bs:List α),(xs.foldl f bs).length=bs.length
 | [],_=>rfl
 | x :: xs,bs=>by rw [List.foldl_cons,Q6i h xs,h]
theorem Qe7 (tb:List (List Int)) (i:Nat) (bs:List Bool) (j:Nat):(kn3 tb i bs j).length=bs.length:=by
 unfold kn3; split <;> simp
theorem Qe8 (n:Nat) (tb:List (List Int)) (bs:List Bool) (i:Nat):(kn2 n tb bs i).length=bs.length:=Q6i (Qe7 tb i) _ _
theorem Qpi (n:Nat) (tb:List (List Int)) (bs:List Bool) (t:Nat):(kn1 n tb bs t).length=bs.length:=Q6i (Qe8 n tb) _ _
inductive Rc (n:Nat) (tb:List (List Int)):Nat->Prop
 | made {h:Nat}:h < n->Q00 tb h=true->Rc n tb h
 | lent {o h:Nat}:Rc n tb o->h < n->0 < ent tb o h->Rc n tb h
theorem Rc.lt {h:Nat} (r:Rc n tb h):h < n:=by cases r <;> assumption
theorem U8 {α β:Type} {f:β->α->β} {P:β->Prop}:∀ {xs:List α} {b:β},(∀ b x,x∈xs->P b->P (f b x))->P b->P (xs.foldl f b)
 | [],_,_,h=>h
 | x :: xs,b,hs,h=>U8 (xs:=xs) (fun b y q=>hs b y (D1 _ q)) (hs b x D5 h)
theorem Q6j {α β:Type} {f:β->α->β} {P Q:β->Prop} (G:∀ b y,P b->P (f b y)) (J:∀ b y,Q b->Q (f b y)) {x:α} (B:∀ b,P b->Q (f b x)):∀ {xs:List α} {b:β},x∈xs->P b->Q (xs.foldl f b)
 | [],_,q,_=>by cases q
 | y :: ys,b,q,I=>by
  rw [List.foldl_cons];rcases D4.mp q with rfl | q
  ·exact U8 (fun b y _=>J b y) (B b I)
  ·exact Q6j G J B q (G b y I)
def Cl (n:Nat) (tb:List (List Int)) (mem:Nat->Bool):Prop:=∀ o h,o < n->h < n->o≠h->0 < ent tb o h->mem o=true->mem h=true
def cnt (n:Nat) (mem:Nat->Bool):Int:=W4 n fun h=>if mem h=true then 1 else 0
theorem Qua (n:Nat) (mem:Nat->Bool):cnt n mem<=n:=by
 unfold cnt
 induction n with
 | zero=>exact Int.le_refl _
 | succ n q=>rw [Jh]; split <;> omega
theorem Qk4 {m1 m2:Nat->Bool} (B:∀ h,h < n->m1 h=true->m2 h=true) {h:Nat} (q:h < n) (h1:m1 h=false) (h2:m2 h=true):cnt n m1 + 1<=cnt n m2:=by
 have e:=Qh6 n (fun h=>if m2 h=true then (1:Int) else 0) (fun h=>if m1 h=true then 1 else 0)
 have l:=Q8t (n:=n) (j:=h) (f:=fun h=>(if m2 h=true then (1:Int) else 0) - (if m1 h=true then 1 else 0)) (fun i hi=>by
  have:=B i hi;cases a:m1 i <;> cases b:m2 i <;> simp_all) q
 simp only [h1,h2] at l;unfold cnt;simp at l;omega
theorem Qa4 {X:Type} (n:Nat) (tb:List (List Int)) (mem:X->Nat->Bool) (f:X->Nat->X) (Inv:X->Prop) (hi:∀ x t,Inv x->Inv (f x t))
  (mono:∀ x t h,Inv x->h < n->mem x h=true->mem (f x t) h=true)
  (a2:∀ x t o h,Inv x->o < n->h < n->o≠h->0 < ent tb o h->mem x o=true->mem (f x t) h=true)
  (stay:∀ x t,Inv x->Cl n tb (mem x)->∀ h,h < n->mem (f x t) h=true->mem x h=true) (I:X) (h0:Inv I):Cl n tb (mem ((List.range n).foldl f I)):=by
 have a3:∀ t:Nat,Inv ((List.range t).foldl f I)/\(Cl n tb (mem ((List.range t).foldl f I))\/(t:Int)<=cnt n (mem ((List.range t).foldl f I))):=by
  intro t
  induction t with
  | zero=>
   refine ⟨h0,.inr ?_⟩;exact Q3e fun i _=>by split <;> omega
  | succ t U=>
   rw [List.range_succ,List.foldl_append,List.foldl_cons,List.foldl_nil];obtain ⟨Z,U⟩:=U;generalize (List.range t).foldl f I=x at *;refine ⟨hi x t Z,?_⟩;rcases Classical.em (Cl n tb (mem x)) with c | c
   ·refine .inl fun o h J G B O Y=>?_
    exact mono x t h Z G (c o h J G B O (stay x t Z c o J Y))
   ·rcases U with U | U
    ·exact absurd U c
    ·refine .inr ?_;have:∃ o h,o < n/\h < n/\o≠h/\0 < ent tb o h/\mem x o=true/\mem x h=false:=by
      refine Classical.byContradiction fun q=>c fun o h J G B O Y=>?_
      cases e:mem x h with
      | true=>rfl
      | false=>exact absurd ⟨o,h,J,G,B,O,Y,e⟩ q
     obtain ⟨o,h,J,G,B,O,Y,hf⟩:=this;have:=Qk4 (fun h G=>mono x t h Z G) G hf (a2 x t o h Z J G B O Y)
     push_cast
     omega
 obtain ⟨Z,h | h⟩:=a3 n
 ·exact h
 ·intro o k J hk B O Y;generalize (List.range n).foldl f I=x at *;cases e:mem x k with
  | true=>rfl
  | false=>
   have:=Qk4 (m1:=mem x) (m2:=fun _=>true) (fun _ _ _=>rfl) hk e rfl;have h2:=Qua n fun _=>true
   omega
theorem set_get {bs:List Bool} {h:Nat}:((bs.set j true).getD h false=true) <-> (h=j/\j < bs.length)\/bs.getD h false=true:=by
 rw [List.getD,List.getElem?_set]
 by_cases e:j=h
 ·subst e
  by_cases l:j < bs.length
  ·simp [l]
  ·simp [l,List.getD]
 ·rw [bO e];constructor
  ·intro q; exact .inr q
  ·rintro (⟨q,_⟩ | q)
   ·exact absurd q.symm e
   ·exact q
theorem Q67 {i h:Nat} {bs:List Bool} (q:bs.getD h false=true):(kn3 tb i bs j).getD h false=true:=by
 unfold kn3
 split
 ·exact set_get.mpr (.inr q)
 ·exact q
theorem Q68 {i h:Nat} {bs:List Bool} (q:bs.getD h false=true):(kn2 n tb bs i).getD h false=true:=U8 (P:=fun bs:List Bool=>bs.getD h false=true) (fun _ _ _ q=>Q67 q) q
theorem Qb8 {t h:Nat} {bs:List Bool} (q:bs.getD h false=true):(kn1 n tb bs t).getD h false=true:=U8 (P:=fun bs:List Bool=>bs.getD h false=true) (fun _ _ _ q=>Q68 q) q
theorem Q9f (n:Nat) (tb:List (List Int)):Cl n tb fun h=>(Q36 n tb).getD h false:=by
 refine Qa4 n tb (fun (bs:List Bool) h=>bs.getD h false) (kn1 n tb) (fun bs=>bs.length=n) (fun x t G=>by rw [Qpi]; exact G) (fun x t h _ _ q=>Qb8 q) (fun x t o h G ho I J Z O=>?_) (fun x t G c h I O=>?_) _ (by simp [Q9g])
 ·show (kn1 n tb x t).getD h false=true;refine Q6j (P:=fun bs:List Bool=>bs.length=n/\bs.getD o false=true) (Q:=fun bs:List Bool=>bs.getD h false=true) (fun bs y q=>⟨by rw [Qe8]; exact q.1,Q68 q.2⟩) (fun bs y q=>Q68 q) (x:=o) (fun bs q=>?_) (E6.mpr ho) ⟨G,O⟩;refine Q6j (P:=fun bs:List Bool=>bs.length=n/\bs.getD o false=true) (Q:=fun bs:List Bool=>bs.getD h false=true) (fun bs y q=>⟨by rw [Qe7]; exact q.1,Q67 q.2⟩) (fun bs y q=>Q67 q) (x:=h) (fun bs q=>?_) (E6.mpr I) q;unfold kn3;rw [bN ⟨q.2,J,Z⟩];exact set_get.mpr (.inl ⟨rfl,by rw [q.1]; exact I⟩)
 ·have:∀ g,g < n->(kn1 n tb x t).getD g false=true->x.getD g false=true:=by
   refine U8 (P:=fun bs:List Bool=>∀ g,g < n->bs.getD g false=true->x.getD g false=true) (fun bs i hi B=>?_) fun g _ q=>q
   refine U8 (P:=fun bs:List Bool=>∀ g,g < n->bs.getD g false=true->x.getD g false=true) (fun bs j hj B g U q=>?_) B;unfold kn3 at q
   split at q
   ·rename_i Y;rcases set_get.mp q with ⟨rfl,_⟩ | q
    ·exact c i g (E6.mp hi) U Y.2.1 Y.2.2 (B i (E6.mp hi) Y.1)
    ·exact B g U q
   ·exact B g U q
  exact this h I O
theorem Qb7 (n:Nat) (tb:List (List Int)) {h:Nat} (Y:h < n):(Q36 n tb).getD h false=true <-> Rc n tb h:=by
 constructor
 ·have:∀ g,g < n->(Q36 n tb).getD g false=true->Rc n tb g:=by
   refine U8 (P:=fun bs:List Bool=>∀ g,g < n->bs.getD g false=true->Rc n tb g) (fun bs t _ B=>?_) fun g G q=>?_
   ·refine U8 (P:=fun bs:List Bool=>∀ g,g < n->bs.getD g false=true->Rc n tb g) (fun bs i hi B=>?_) B;refine U8 (P:=fun bs:List Bool=>∀ g,g < n->bs.getD g false=true->Rc n tb g) (fun bs j Z B g G q=>?_) B;unfold kn3 at q
    split at q
    ·rename_i J;rcases set_get.mp q with ⟨rfl,_⟩ | q
     ·exact .lent (B i (E6.mp hi) J.1) G J.2.2
     ·exact B g G q
    ·exact B g G q
   ·unfold Q9g at q;rw [List.getD,E5,List.getElem?_range G] at q;exact .made G (by simpa using q)
  exact this h Y
 ·intro r
  induction r with
  | made hl U=>
   refine U8 (P:=fun bs:List Bool=>bs.getD _ false=true) (fun bs t _ q=>Qb8 q) ?_;unfold Q9g;rw [List.getD,E5,List.getElem?_range hl];simpa using U
  | @lent o g r hl O I=>
   by_cases e:o=g
   ·subst e; exact I r.lt
   ·exact Q9f n tb o g r.lt hl e O (I r.lt)
def RdOk (n:Nat) (fs:List Nat):Prop:=(∀ x∈fs,x < n)/\fs.Nodup
theorem Q31:∀ {n:Nat} {fs:List Nat},(∀ x∈fs,x < n)->fs.Nodup->fs.length<=n
 | 0,[],_,_=>O8 _
 | 0,x :: _,h,_=>absurd (h x D5) (Nat.not_lt_zero _)
 | n + 1,fs,h,d=>by
  by_cases B:n∈fs
  ·have h1:(fs.erase n).length<=n:=Q31 (fun x q=>by
    have h2:=(d.mem_erase_iff).mp q;have:=h x h2.2;omega) (d.erase n)
   rw [List.length_erase_of_mem B] at h1;omega
  ·have:=Q31 (n:=n) (fs:=fs) (fun x q=>by
    have:=h x q;have:x≠n:=fun e=>B (e ▸ q)
    omega) d
   omega
theorem RdOk.len {fs:List Nat} (h:RdOk n fs):fs.length<=n:=Q31 h.1 h.2
def AhN (tb:List (List Int)) (fs:List Nat):Prop:=∀ k,k < fs.length->Q00 tb (fs.getD k 0)=true\/∃ o∈fs.take k,0 < ent tb o (fs.getD k 0)
theorem AhN.snoc {fs:List Nat} {h:Nat} (a:AhN tb fs) (q:Q00 tb h=true\/∃ o∈fs,0 < ent tb o h):AhN tb (fs ++ [h]):=by
 intro k B;rw [O6,List.length_singleton] at B
 by_cases e:k < fs.length
 ·have:=a k e;rw [List.take_append_of_le_length (by omega)];rw [show (fs ++ [h]).getD k 0=fs.getD k 0 by rw [List.getD,List.getD,O3 e]];exact this
 ·have:k=fs.length:=by omega
  subst this;rw [show (fs ++ [h]).getD fs.length 0=h by simp [List.getD]];rw [List.take_left];exact q
def Q0j (fs:List Nat):List Int:=fs.map fun k:Nat=>(k:Int)
def rdS (st:Q1) (fs:List Nat):Q1:=st ++ [Cell.lst (fs.map Zu)]
theorem Qhz (st:Q1) (fs:List Nat):(rdS st fs)[st.length]?=some (.lst (fs.map Zu)):=by unfold rdS; simp
theorem Q0v (fs:List Nat):(Q0j fs).map PV.int=fs.map Zu:=by unfold Q0j; rw [L5]; rfl
theorem intsN_mem {fs:List Nat} {h:Nat}:(h:Int)∈Q0j fs <-> h∈fs:=by
 unfold Q0j;rw [List.mem_map];constructor
 ·rintro ⟨k,B,e⟩;have:k=h:=by omega
  rw [<- this]; exact B
 ·intro q; exact ⟨h,q,rfl⟩
def U6 (n:Nat) (fs:List Nat):List Nat:=(List.range n).filter fun h=>!decide (h∈fs)
def Ur (n:Nat) (tb:List (List Int)) (fs:List Nat):List Nat:=(U6 n fs).filter fun h=>yk tb h fs
structure GdR (n:Nat) (tb:List (List Int)) (fs:List Nat):Prop where
 rd:RdOk n fs
 ah:AhN tb fs
 rc:∀ h∈fs,Rc n tb h
theorem AhN.more :∀ {ds fs:List Nat},AhN tb fs->(∀ h∈ds,Q00 tb h=true\/∃ o∈fs,0 < ent tb o h)->AhN tb (fs ++ ds)
 | [],fs,a,_=>by rw [G6]; exact a
 | d :: ds,fs,a,h=>by
  rw [show fs ++ d :: ds=(fs ++ [d]) ++ ds by simp];refine AhN.more (a.snoc (h d D5)) fun g B=>?_
  rcases h g (D1 _ B) with q | ⟨o,G,q⟩
  ·exact .inl q
  ·exact .inr ⟨o,F7 _ G,q⟩
theorem Q4k {fs:List Nat} {h:Nat} (q:h∈Ur n tb fs):h < n/\h∉fs/\(Q00 tb h=true\/∃ o∈fs,0 < ent tb o h):=by
 obtain ⟨q1,q2⟩:=List.mem_filter.mp q;obtain ⟨q3,G⟩:=List.mem_filter.mp q1;refine ⟨E6.mp q3,by simpa using G,?_⟩;unfold yk Qb3 at q2;rw [Bool.or_eq_true] at q2;rcases q2 with q2 | q2
 ·exact .inl q2
 ·obtain ⟨o,B,e⟩:=List.any_eq_true.mp q2;rw [F5] at e;exact .inr ⟨o,B,by simpa using e.2⟩
theorem GdR.step {fs:List Nat} (g:GdR n tb fs):GdR n tb (fs ++ Ur n tb fs):=by
 refine ⟨⟨fun x B=>?_,?_⟩,g.ah.more fun h q=>(Q4k q).2.2,fun h B=>?_⟩
 ·rcases F1.mp B with B | B
  ·exact g.rd.1 x B
  ·exact (Q4k B).1
 ·refine List.nodup_append.mpr ⟨g.rd.2,(List.nodup_range.filter _).filter _,fun a J b O e=>?_⟩;subst e;exact (Q4k O).2.1 J
 ·rcases F1.mp B with B | B
  ·exact g.rc h B
  ·obtain ⟨h1,_,h2 | ⟨o,I,G⟩⟩:=Q4k B
   ·exact .made h1 h2
   ·exact .lent (g.rc o I) h1 G
theorem GdR.closed {fs:List Nat} (g:GdR n tb fs) (U:Ur n tb fs=[]) {h:Nat} (hh:h < n):h∈fs <-> Rc n tb h:=by
 refine ⟨g.rc h,fun r=>?_⟩;have B:∀ k,k < n->k∉fs->yk tb k fs=false:=fun k Z I=>by
  cases e:yk tb k fs with
  | false=>rfl
  | true=>
   have:k∈Ur n tb fs:=List.mem_filter.mpr ⟨List.mem_filter.mpr ⟨E6.mpr Z,by simp [I]⟩,e⟩;rw [U] at this;cases this
 induction r with
 | @made k hl I=>
  refine Classical.byContradiction fun q=>?_
  have:=B k hl q;unfold yk at this;rw [I] at this;cases this
 | @lent o k r hl O Y=>
  refine Classical.byContradiction fun q=>?_
  have:=B k hl q;unfold yk Qb3 at this;rw [Bool.or_eq_false_iff,List.any_eq_false] at this;have J:=Y r.lt;have G:o≠k:=fun e=>q (e ▸ J)
  exact this.2 o J (by simp [G,O])
theorem Qmy (z:Sz n tb) (hn:n<=100) (st:Q1) (fs:List Nat) (r:RdOk n fs) (b a c:Option PV):Wa [some (Q5 tb),some (.ref st.length),b,a,c] (rdS st fs)=.nx [some (Q5 tb),some (.ref st.length),some (.bl (decide (0 < (Ur n tb fs).length))),some (.lst ((U6 n fs).map Zu)),some (.lst ((Ur n tb fs).map Zu))] (rdS st (fs ++ Ur n tb fs)):=by
 have a3:-1000000<=(n:Int)/\(n:Int)<=1000000:=by omega
 have a5:=r.len;have hS:=Qhz st fs;have a2:ListAt (rdS st fs) (.ref st.length) ((Q0j fs).map .int):=.inr (.inr ⟨_,rfl,by rw [Q0v]; exact hS⟩);have G:ListAt (rdS st fs) (.ref st.length) (fs.map Zu):=.inr (.inr ⟨_,rfl,hS⟩);have Z:Zt (rdS st fs) [Q5 tb]=.ok (.int n) (rdS st fs):=by simp [Q5,z.1]
 have J:Jf (Qg 0) W6 Ve [] (Zc [none,some 1] [some (Q5 tb),some (.ref st.length),b,a,c]) (Zh 0 n) (rdS st fs)=.ok ((U6 n fs).map Zu) (rdS st fs):=by
  rw [Uw];refine zq _ _ _ (by simp) fun j hj=>⟨_,rfl,?_,fun ht=>?_⟩
  ·have B:=Qqu a2 (j:Int) true
   by_cases q:j∈fs
   ·have q':(j:Int)∈Q0j fs:=intsN_mem.mpr q;generalize rdS st fs=S at *;simp -implicitDefEqProofs [Zc,W6,B,q,q']
   ·have q':¬ (j:Int)∈Q0j fs:=fun z=>q (intsN_mem.mp z)
    generalize rdS st fs=S at *;simp -implicitDefEqProofs [Zc,W6,B,q,q']
  ·simp [Zc,Ve,Zu]
 have O:(U6 n fs).length<=n:=by
  have:=List.length_filter_le (fun h=>!decide (h∈fs)) (List.range n)
  rw [G9] at this;exact this
 have Y:∀ h∈U6 n fs,h < n:=fun h hh=>E6.mp (List.mem_filter.mp hh).1
 have U:Jf (Qg 0) V9 Vd [] (Zc [none,some 0,some 1] [some (Q5 tb),some (.ref st.length),b,some (.lst ((U6 n fs).map Zu)),c]) ((U6 n fs).map Zu) (rdS st fs)=.ok ((Ur n tb fs).map Zu) (rdS st fs):=by
  unfold Ur;refine zq _ _ _ (by simp) fun j hj=>⟨_,rfl,?_,fun ht=>?_⟩
  ·have hr:=Qmz z (h:=j) (Y j hj) r.1 (by omega) G;generalize yk tb j fs=rb at *;generalize rdS st fs=S at *;generalize (U6 n fs).map Zu=ov at *;simp -implicitDefEqProofs [Zc,V9,Zu,hr]
  ·simp [Zc,Vd,Zu]
 have a4:(Ur n tb fs).length<=n:=F0 (List.length_filter_le _ _) O;have I:(rdS st fs).set st.length (.lst (fs.map Zu ++ (Ur n tb fs).map Zu))=rdS st (fs ++ Ur n tb fs):=by
  unfold rdS;rw [F3];simp
 have l1:((U6 n fs).map Zu).length<=1000000:=by rw [O2]; omega
 have l2:(fs.map Zu).length + ((Ur n tb fs).map Zu).length<=1000000:=by rw [O2,O2]; omega
 have l3:((Ur n tb fs).map Zu).length=(Ur n tb fs).length:=O2 _;generalize rdS st (fs ++ Ur n tb fs)=S2 at *;generalize rdS st fs=S at *;generalize (U6 n fs).map Zu=ov at *;generalize (Ur n tb fs).length=fl at *;generalize (Ur n tb fs).map Zu=fv at *;generalize fs.map Zu=xv at *;rw [l3] at l2;simp -implicitDefEqProofs [Wa,Z,a3,Ju,J,l1,U,hS,Q0d,chg,l2,l3,I]
theorem Qa9 {n:Nat} {tb:List (List Int)} (z:Sz n tb) (U:n<=100) (st:Q1):∀ (m q:Nat) (fs:List Nat) (a c:Option PV),GdR n tb fs->n<=fs.length + m->m + 2<=q->∃ fs' I J O,GdR n tb fs'/\Ur n tb fs'=[]/\K2 Y6 Wa q [some (Q5 tb),some (.ref st.length),some (.bl true),a,c] (rdS st fs)=.nx [some (Q5 tb),some (.ref st.length),I,J,O] (rdS st fs')
 | m,0,_,_,_,_,_,h=>absurd h (by omega)
 | m,1,_,_,_,_,_,h=>absurd h (by omega)
 | m,k + 2,fs,a,c,g,hm,hf=>by
  have B:=Qmy z U st fs g.rd (some (.bl true)) a c;have Y:∀ S,Y6 [some (Q5 tb),some (.ref st.length),some (.bl true),a,c] S=.ok true S:=fun S=>by simp [Y6]
  by_cases e:Ur n tb fs=[]
  ·refine ⟨fs,some (.bl false),some (.lst ((U6 n fs).map Zu)),some (.lst ((Ur n tb fs).map Zu)),g,e,?_⟩;rw [K2,Y];simp only [Vh,if_true,B];rw [K2];have Z:∀ S,Y6 [some (Q5 tb),some (.ref st.length),some (.bl (decide (0 < (Ur n tb fs).length))),some (.lst ((U6 n fs).map Zu)),some (.lst ((Ur n tb fs).map Zu))] S=.ok false S:=fun S=>by simp [Y6,e]
   rw [Z];simp [e]
  ·have hp:0 < (Ur n tb fs).length:=List.length_pos_iff.mpr e;have g':=g.step;have G:=g'.rd.len;rw [O6] at G;cases m with
   | zero=>omega
   | succ m=>
    obtain ⟨fs',I,J,O,h1,h2,h3⟩:=Qa9 z U st m (k + 1) (fs ++ Ur n tb fs) (some (.lst ((U6 n fs).map Zu))) (some (.lst ((Ur n tb fs).map Zu))) g' (by rw [O6]; omega) (by omega);refine ⟨fs',I,J,O,h1,h2,?_⟩;rw [K2,Y];rw [bQ hp] at B;simp only [Vh,if_true,B];exact h3
theorem Qca (z:Sz n tb) (B:n<=100) (st:Q1):∃ fs,GdR n tb fs/\Ur n tb fs=[]/\Wu [some (Q5 tb),none,none,none,none] st=.rt (.ref st.length) (rdS st fs):=by
 obtain ⟨fs,O,U,J,g,e,h⟩:=Qa9 z B st n 100000 [] none none ⟨⟨fun x q=>(by cases q),List.nodup_nil⟩,fun k G=>absurd G (Nat.not_lt_zero _),fun x q=>(by cases q)⟩ (by simp) (by omega)
 refine ⟨fs,g,e,?_⟩;have I:st ++ [Cell.lst []]=rdS st []:=rfl;generalize rdS st fs=S2 at *;generalize rdS st []=S1 at *;simp -implicitDefEqProofs [Wu,Ju,I,h]
theorem Q7v (z:Sz n tb) (G:n<=100) (st:Q1):∃ fs,GdR n tb fs/\Ur n tb fs=[]/\Yp [Q5 tb] st=.ok (.lst (fs.map Zu)) st:=by
 obtain ⟨fs,g,e,h⟩:=Qca z G st;refine ⟨fs,g,e,?_⟩;have B:=Qpt (n:=st.length) (r:=st.length) (S:=rdS st fs) (hs:=Q0j fs) (O8 _) (by rw [Q0v]; exact Qhz _ _);rw [Q0v] at B;have q:st <+: rdS st fs:=List.prefix_append _ _;generalize rdS st fs=S2 at *;show Qh Wu 5 [Q5 tb] st=_;unfold Qh;rw [show (([Q5 tb]:List PV).map some ++ List.replicate (5 - [Q5 tb].length) none)=[some (Q5 tb),none,none,none,none] from rfl,h];show Sm.fin st (.ref st.length) S2=_;unfold Sm.fin;rw [bN q,B];rfl
theorem Qsg {fs:List Nat} (g:GdR n tb fs) (J:Ur n tb fs=[]):((List.range n).all fun h=>(Q36 n tb).getD h false || !U9 tb h)=(List.range n).all fun h=>decide (h∈fs) || !U9 tb h:=by
 rw [Bool.eq_iff_iff,G7,G7];have I:∀ h,h∈List.range n->(decide (h∈fs) || !U9 tb h)=((Q36 n tb).getD h false || !U9 tb h):=fun h O=>by
  have B:=E6.mp O;congr 1;rw [Bool.eq_iff_iff,decide_eq_true_iff,g.closed J B,Qb7 n tb B]
 constructor <;> intro q x G
 ·rw [I x G]; exact q x G
 ·rw [<- I x G]; exact q x G
def Q1h (n:Nat) (tb:List (List Int)):Bool:=(List.range n).all fun h=>(Q36 n tb).getD h false || !U9 tb h
theorem Qit {fs:List Nat} (g:GdR n tb fs) (q:Ur n tb fs=[]):(U6 n fs).any (U9 tb)=!Q1h n tb:=by
 unfold Q1h;rw [Qsg g q];unfold U6;rw [List.any_filter,List.any_eq_not_all_not];congr 2;funext h;rw [Bool.not_and,Bool.not_not]
theorem Q6h {α:Type} (g:α->PV) (J:Gam->Prop) (G:α->Bool) (v:α->PV) {ga:GA} {body:MS} {w:Wt} {st:Q1} (Y:wOk w st):∀ {xs:List α},(∀ x∈xs,∀ Γ,J Γ->∃ Γ1,ga (g x) Γ=some Γ1/\(G x=true->∃ B,J B/\body Γ1 st=.nx B st)/\(G x=false->body Γ1 st=.rt (v x) st)) ->
  ∀ Γ,J Γ->(xs.all G=true->∃ I,J I/\Kx ga body w (xs.map g) Γ st=.nx I st)/\(xs.all G=false->∃ x∈xs,G x=false/\Kx ga body w (xs.map g) Γ st=.rt (v x) st)
 | [],_,Γ,O=>⟨fun _=>⟨Γ,O,by simp [Kx,Y]⟩,fun h=>by simp at h⟩
 | x :: xs,h,Γ,O=>by
  obtain ⟨Γ1,h1,h2,h3⟩:=h x D5 Γ O;rw [F2,Kx,bN Y,h1];cases px:G x with
  | false=>
   refine ⟨fun z=>by simp [px] at z,fun _=>⟨x,D5,px,?_⟩⟩
   simp only [h3 px]
  | true=>
   obtain ⟨B,j2,e2⟩:=h2 px;have Z:=Q6h g J G v (ga:=ga) (body:=body) Y (xs:=xs) (fun y U=>h y (D1 _ U)) B j2
   simp only [e2,List.all_cons,px,Bool.true_and];exact ⟨Z.1,fun q=>by
    obtain ⟨y,U,p,e⟩:=Z.2 q;exact ⟨y,D1 _ U,p,e⟩⟩
def Q0n (n:Nat) (tb:List (List Int)):Bool:=((List.range n).all fun h=>decide (0<=Qi tb h)) && Q1h n tb
theorem Q12 (z:Sz n tb) (hn:n<=100) (st:Q1):∃ us:List Nat,us.length<=n/\(us=[] <-> Q1h n tb=true)/\Y8 [Q5 tb] st=.ok (.lst (us.map Zu)) st:=by
 obtain ⟨fs,g,hc,e⟩:=Q7v z hn st;have U:-1000000<=(n:Int)/\(n:Int)<=1000000:=by omega
 have O:Zt st [Q5 tb]=.ok (.int n) st:=by simp [Q5,z.1]
 have a4:ListAt st (.lst (fs.map Zu)) ((Q0j fs).map .int):=.inl (by rw [Q0v]);have I:Jf (Qg 0) Yq Wh [] (Zc [none,some 1] [some (Q5 tb),some (.lst (fs.map Zu)),none]) (Zh 0 n) st=.ok ((U6 n fs).map Zu) st:=by
  rw [Uw];refine zq _ _ _ (by simp) fun j hj=>⟨_,rfl,?_,fun ht=>?_⟩
  ·have G:=Qqu a4 (j:Int) true
   by_cases q:j∈fs
   ·have q':(j:Int)∈Q0j fs:=intsN_mem.mpr q;generalize fs.map Zu=fv at *;simp -implicitDefEqProofs [Zc,Yq,G,q,q']
   ·have q':¬ (j:Int)∈Q0j fs:=fun z=>q (intsN_mem.mp z)
    generalize fs.map Zu=fv at *;simp -implicitDefEqProofs [Zc,Yq,G,q,q']
  ·simp [Zc,Wh,Zu]
 have Z:(U6 n fs).length<=n:=by
  have:=List.length_filter_le (fun h=>!decide (h∈fs)) (List.range n)
  rw [G9] at this;exact this
 have a2:∀ h∈U6 n fs,h < n:=fun h hh=>E6.mp (List.mem_filter.mp hh).1
 have B:=Qit g hc;have J:Jf (Qg 0) Zg Wf [] (Zc [none,some 0] [some (Q5 tb),some (.lst (fs.map Zu)),some (.lst ((U6 n fs).map Zu))]) ((U6 n fs).map Zu) st=.ok (((U6 n fs).map (U9 tb)).map .bl) st:=by
  rw [L5];refine Yf _ _ (by simp) fun j hj=>⟨_,rfl,?_⟩
  have hb:=Qq4 z (a2 j hj) st;show _=Res.ok (PV.bl (U9 tb j)) st;generalize U9 tb j=rb at *;simp -implicitDefEqProofs [Zc,Wf,Zu,hb]
 have ha:(U6 n fs).any (U9 tb)=((U6 n fs).map (U9 tb)).any id:=(Qkr _ _).symm;have l1:((U6 n fs).map Zu).length<=1000000:=by rw [O2]; omega
 have Y:fin st (.lst ((U6 n fs).map Zu)) st=.ok (.lst ((U6 n fs).map Zu)) st:=Vm (by simp [Zq,Zu]);have a3:fin st (.lst []) st=.ok (.lst []) st:=Vm (by simp [Zq]);cases hr:Q1h n tb with
 | true=>
  refine ⟨[],by simp,by simp,?_⟩;rw [hr,ha] at B;rw [List.map_nil];generalize (U6 n fs).map (U9 tb)=bs at *;generalize (U6 n fs).map Zu=ov at *;have B:bs.any id=false:=B;simp -implicitDefEqProofs [Y8,Qh,Va,e,O,U,Ju,I,l1,J,B,a3]
 | false=>
  rw [hr] at B;refine ⟨U6 n fs,Z,⟨fun q=>?_,fun q=>by cases q⟩,?_⟩
  ·rw [q] at B; cases B
  ·rw [ha] at B;have B:((U6 n fs).map (U9 tb)).any id=true:=B;generalize (U6 n fs).map (U9 tb)=bs at *;generalize (U6 n fs).map Zu=ov at *;simp -implicitDefEqProofs [Y8,Qh,Va,e,O,U,Ju,I,l1,J,B,Y]
theorem Qgg (z:Sz n tb) (U:n<=100) (st:Q1):∃ (s:Str) (v:PV),Yt [Q5 tb] st=.ok (.tup [.str s,v]) st/\(s == (Str.ofString "comes"))=Q0n n tb:=by
 have G:-1000000<=(n:Int)/\(n:Int)<=1000000:=by omega
 have B:∀ S,Zt S [Q5 tb]=.ok (.int n) S:=fun S=>by simp [Q5,z.1]
 have L:=Q6h (fun k:Nat=>PV.int (k:Int)) (fun Γ=>∃ a,Γ=[some (Q5 tb),a,none]) (fun h=>decide (0<=Qi tb h)) (fun h=>.tup [.str "short",.int h]) (ga:=Qg 1) (body:=Ww) (w:=[]) (st:=st) (by simp) (xs:=List.range n) (fun h hh Γ ⟨a,e⟩=>by
  subst e;have I:=Q7w z U (E6.mp hh) st;refine ⟨_,rfl,fun hp=>⟨[some (Q5 tb),some (.int h),none],⟨_,rfl⟩,?_⟩,fun hp=>?_⟩
  ·have Y:0<=Qi tb h:=by simpa using hp
   have:¬ (Qi tb h < 0):=by omega
   generalize Qi tb h=x at *;simp -implicitDefEqProofs [Ww,I,this]
  ·have Y:¬ 0<=Qi tb h:=by simpa using hp
   have:Qi tb h < 0:=by omega
   generalize Qi tb h=x at *;simp -implicitDefEqProofs [Ww,I,this,Ju])
 have L:=L [some (Q5 tb),none,none] ⟨_,rfl⟩;rw [<- Uw] at L;unfold Q0n;cases ha:(List.range n).all fun h=>decide (0<=Qi tb h) with
 | false=>
  obtain ⟨h,hh,hp,e⟩:=L.2 ha;refine ⟨"short",.int h,?_,by rw [Bool.false_and]; decide +kernel⟩;have O:fin st (.tup [.str "short",.int h]) st=.ok (.tup [.str "short",.int h]) st:=Vm (by simp [Zq]);simp -implicitDefEqProofs [Yt,Qh,U7,B,G,Ju,e,O]
 | true=>
  obtain ⟨a2,⟨a,rfl⟩,e⟩:=L.1 ha;obtain ⟨us,hl,J,e1⟩:=Q12 z U st;cases I:Q1h n tb with
  | true=>
   have Z:=J.mpr I;subst Z;obtain ⟨fs,g,hc,e2⟩:=Q7v z U st;refine ⟨"comes",.lst (fs.map Zu),?_,by rw [Bool.true_and]; decide +kernel⟩;have O:fin st (.tup [.str "comes",.lst (fs.map Zu)]) st=.ok (.tup [.str "comes",.lst (fs.map Zu)]) st:=Vm (by simp [Zq,Zu]);rw [List.map_nil] at e1;generalize fs.map Zu=fv at *;simp -implicitDefEqProofs [Yt,Qh,U7,B,G,Ju,e,e1,e2,O]
  | false=>
   have Z:us≠[]:=fun q=>by rw [J.mp q] at I; cases I
   refine ⟨"rootless",.lst (us.map Zu),?_,by rw [Bool.true_and]; decide +kernel⟩;have hp:0 < (us.map Zu).length:=by rw [O2]; exact List.length_pos_iff.mpr Z
   have O:fin st (.tup [.str "rootless",.lst (us.map Zu)]) st=.ok (.tup [.str "rootless",.lst (us.map Zu)]) st:=Vm (by simp [Zq,Zu]);generalize us.map Zu=uv at *;simp -implicitDefEqProofs [Yt,Qh,U7,B,G,Ju,e,e1,hp,O]
theorem Qe0 {a b:List (List Int)} (h:a.length=b.length) (st:Q1):J4 [Q5 a,Q5 b] st=.ok .non st:=by
 simp [J4,Qh,V6,Q5,h]
def Qaa (r1 r2:List Int):Bool:=(r1.zip r2).all fun z=>decide (z.1<=z.2)
theorem Q70 (q B:List Int) (st:Q1) (hl:q.length<=lim):W3 [Qt q,Qt B] st=.ok (.bl (Qaa q B)) st:=by
 have G:Jf (Kh (Y5 (Qg 0) (Y5 (Qg 1) Ki))) Zg Vf [] (Zc [none,none] [some (Qt q),some (Qt B)]) ((q.zip B).map fun z=>.tup [.int z.1,.int z.2]) st=.ok ((q.zip B).map fun z=>.bl (decide (z.1<=z.2))) st:=by
  refine Yf _ _ (by simp) fun z hz=>⟨_,rfl,?_⟩
  simp [Zc,Vf]
 unfold Qt at G ⊢;simp [W3,Qh,K9,hl,Q04,G,Qd9,Qaa]
theorem Qg6 (r:List Int) (n:Int) (st:Q1) (hl:r.length<=lim):zy [Qt r,.int n] st=.ok (.bl (decide ((r.length:Int)=n + 1) && r.all fun i=>decide (0<=i))) st:=by
 have q:Jf (Qg 0) Zg xr [] (Zc [none] [some (Qt r),some (.int n)]) (r.map .int) st=.ok (r.map fun i=>.bl (decide (0<=i))) st:=by
  refine Yf _ _ (by simp) fun i hi=>⟨_,rfl,?_⟩
  simp [Zc,xr,Kw]
 unfold Qt at q ⊢
 by_cases h:(r.length:Int)=n + 1 <;> simp [zy,Qh,Q5x,isI,tyN,q,h,hl,Qd9]
theorem Qba (w:Wt' n tb) (st:Q1):Xr [Q5 tb] st=.ok (.bl true) st:=by
 have h1:=w.n1;have J:=w.n8;have G:Jf (Qg 0) Zg Ky [] (Zc [none,some 0] [some (Q5 tb)]) (tb.map Qt) st=.ok (tb.map fun _=>.bl true) st:=by
  refine Yf _ _ (by simp) fun r I=>⟨_,rfl,?_⟩
  have e:=w.row r I;have e2:=Qg6 r tb.length st (by rw [e,Ju]; omega);simp [Zc,Ky,Q5,e2];rw [w.len,e];exact ⟨by omega,w.nn r I⟩
 unfold Q5 at G ⊢;have B:(1:Int)<=n:=by omega
 have q:(n:Int)<=8:=by omega
 have hl:n<=1000000:=by omega
 simp [Xr,Qh,Q1m,isI,tyN,G,w.len,Qd9,B,q,Ju,hl]
def maxI (x y:Int):Int:=if y > x then y else x
theorem Qj0 (x y:Int):x<=maxI x y:=by unfold maxI; split <;> omega
theorem Qe1 (x y:Int):maxI x y=x\/maxI x y=y:=by unfold maxI; split <;> simp
def Wv (a b:List Int):List Int:=(a.zip b).map fun z=>maxI z.1 z.2
def Wk (a b:List (List Int)):List (List Int):=(a.zip b).map fun z=>Wv z.1 z.2
theorem Q7k (a b:List Int) (hl:a.length<=lim) (st:Q1):Vv [Qt a,Qt b] st=.ok (Qt (Wv a b)) st:=by
 have B:Jf (Kh (Y5 (Qg 0) (Y5 (Qg 1) Ki))) Zg X3 [] (Zc [none,none] [some (Qt a),some (Qt b)]) ((a.zip b).map fun z=>.tup [.int z.1,.int z.2]) st=.ok ((a.zip b).map fun z=>.int (maxI z.1 z.2)) st:=by
  refine Yf _ _ (by simp) fun z hz=>⟨_,rfl,?_⟩
  simp [Zc,X3,maxI]
 have e:((a.zip b).map fun z=>PV.int (maxI z.1 z.2))=(Wv a b).map .int:=by unfold Wv; rw [L5]; rfl
 rw [e] at B;have G:Zq 12 (.tup ((Wv a b).map .int))=true:=by simp [Zq]
 generalize Wv a b=q at *;unfold Qt at B ⊢;simp [Vv,Qh,yw,hl,Q04,B,Vm G]
theorem Qg3 {a b:List (List Int)} (h:a.length=b.length) (hl:a.length<=lim) (I:∀ r∈a,r.length<=lim) (st:Q1):zx [Q5 a,Q5 b] st=.ok (Q5 (Wk a b)) st:=by
 have B:Jf (Kh (Y5 (Qg 0) (Y5 (Qg 1) Ki))) Zg xq [] (Zc [none,none] [some (Q5 a),some (Q5 b)]) ((a.zip b).map fun z=>.tup [Qt z.1,Qt z.2]) st=.ok ((a.zip b).map fun z=>Qt (Wv z.1 z.2)) st:=by
  refine Yf _ _ (by simp) fun z hz=>⟨_,rfl,?_⟩
  have:=Q7k z.1 z.2 (I _ (List.of_mem_zip hz).1) st;simp [Zc,xq,this]
 have e:((a.zip b).map fun z=>Qt (Wv z.1 z.2))=(Wk a b).map Qt:=by unfold Wk; rw [L5]; rfl
 rw [e] at B;have G:=Qe0 h st;have J:Zq 12 (.tup ((Wk a b).map Qt))=true:=by simp [Zq,Qt]
 generalize Wk a b=q at *;unfold Q5 at B G ⊢;simp [zx,Qh,Q5w,hl,Q04,B,G,Vm J]
theorem Qg4 {a b:List Int} (h:a.length=b.length):(Wv a b).length=a.length:=by unfold Wv; simp [h]
theorem Qm9 {a b:List (List Int)} (q:Sz n a) (B:Sz n b):Sz n (Wk a b):=by
 refine ⟨by unfold Wk; simp [q.1,B.1],fun r G=>?_⟩;obtain ⟨z,hz,rfl⟩:=List.mem_map.mp G;have:=List.of_mem_zip hz;rw [Qg4 (by rw [q.2 _ this.1,B.2 _ this.2]),q.2 _ this.1]
theorem Q2g {i:Nat} {a b:List (List Int)} (B:Sz n a) (q:Sz n b) (hi:i < n) (G:j<=n):ent (Wk a b) i j=maxI (ent a i j) (ent b i j):=by
 have J:=B.row hi;have rb:=q.row hi;have O:=B.cell hi G;have I:=q.cell hi G;have e1:(Wk a b).getD i []=Wv (a.getD i []) (b.getD i []):=by
  unfold Wk;rw [List.getD,E5,(List.getElem?_zip_eq_some (z:=(a.getD i [],b.getD i []))).mpr ⟨J.1,rb.1⟩];rfl
 have e2:(Wv (a.getD i []) (b.getD i []))[j]?=some (maxI (ent a i j) (ent b i j)):=by
  unfold Wv;rw [E5,(List.getElem?_zip_eq_some (z:=(ent a i j,ent b i j))).mpr ⟨O,I⟩];rfl
 unfold ent;rw [e1,List.getD,e2];rfl
def Xx (n:Nat):List Int:=List.replicate (n + 1) 0
theorem Qkw (h1:1<=n) (G:n<=8):Wt' n (List.replicate n (Xx n)):=by
 refine ⟨by simp,fun r q=>?_,fun r q x B=>?_,h1,G⟩
 ·rw [List.eq_of_mem_replicate q]; simp [Xx]
 ·rw [List.eq_of_mem_replicate q] at B;rw [List.eq_of_mem_replicate B];exact Int.le_refl _
def Uh (tb:List (List Int)) (i j:Nat) (x:Int):List (List Int):=tb.set i ((tb.getD i []).set j x)
theorem xm {i:Nat} (z:Sz n tb) (hi:i < n) (I:j<=n) (x:Int) (a b:Nat):ent (Uh tb i j x) a b=if a=i/\b=j then x else ent tb a b:=by
 unfold ent Uh;have hl:=(z.row hi).2
 by_cases B:a=i
 ·subst B;rw [show (tb.set a ((tb.getD a []).set j x)).getD a []=(tb.getD a []).set j x by rw [List.getD,E3 (by rw [z.1]; exact hi)]; rfl]
  by_cases G:b=j
  ·subst G;rw [bN ⟨rfl,rfl⟩,List.getD,E3 (by omega)]; rfl
  ·rw [bO (fun q=>G q.2),List.getD,O7 (fun q=>G q.symm)]; rfl
 ·rw [bO (fun q=>B q.1)];rw [show (tb.set i ((tb.getD i []).set j x)).getD a []=tb.getD a [] by rw [List.getD,O7 (fun q=>B q.symm)]; rfl]
theorem Q4t (n i:Nat) (k:Int):W4 n (fun o=>if o=i then k else 0)=if i < n then k else 0:=by
 induction n with
 | zero=>rfl
 | succ n q=>
  rw [Jh,q]
  by_cases e:n=i
  ·subst e; simp
  ·rw [bO e]
   by_cases h:i < n
   ·rw [bN h,bN (by omega)]; omega
   ·rw [bO h,bO (by omega)]; omega
theorem Qn8 {i:Nat} (z:Sz n tb) (hi:i < n) (x:Int):Sz n (Uh tb i j x):=by
 unfold Uh;refine ⟨by rw [D9]; exact z.1,fun r q=>?_⟩;rcases List.mem_or_eq_of_mem_set q with q | rfl
 ·exact z.2 r q
 ·rw [D9]; exact (z.row hi).2
theorem Q1g {i:Nat} (z:Sz n tb) (hi:i < n) (U:j<=n) (k:Int) {h:Nat} (G:h < n) :
  Qi (Uh tb i j (ent tb i j + k)) h=Qi tb h + (if h=j then k else 0) - (if h=i then k else 0) + (if h=i/\j=i then k else 0):=by
 have I:=Qn8 (j:=j) z hi (ent tb i j + k);have B:∀ a b,ent (Uh tb i j (ent tb i j + k)) a b=ent tb a b + if a=i/\b=j then k else 0:=fun a b=>by
  rw [xm z hi U]
  split
  ·rename_i q; rw [q.1,q.2]
  ·omega
 rw [qk I G,qk z G];have O:W4 n (fun o=>ent (Uh tb i j (ent tb i j + k)) o h)=W4 n (fun o=>ent tb o h) + if h=j then k else 0:=by
  rw [Ud (g:=fun o=>ent tb o h + if o=i then (if h=j then k else 0) else 0) fun o _=>by
   rw [B]
   by_cases q1:o=i <;> by_cases q2:h=j <;> simp [q1,q2],Qa3,Q4t,bN hi]
 have J:W4 n (fun b=>ent (Uh tb i j (ent tb i j + k)) h b) + ent (Uh tb i j (ent tb i j + k)) h n=W4 n (fun b=>ent tb h b) + ent tb h n + if h=i then k else 0:=by
  rw [<- Jh,<- Jh,Ud (g:=fun b=>ent tb h b + if b=j then (if h=i then k else 0) else 0) fun b _=>by
   rw [B]
   by_cases q1:h=i <;> by_cases q2:b=j <;> simp [q1,q2],Qa3,Q4t,bN (by omega)]
 rw [O,J,B]
 by_cases q1:h=i <;> by_cases q2:j=i <;> by_cases q3:h=j <;> simp [q1,q2,q3] <;> omega
structure Ca (n:Nat) (tb:List (List Int)):Prop where
 nn:∀ h,h < n->0<=Qi tb h
 bz:∀ h,h < n->U9 tb h=true->Rc n tb h
theorem Ca.comes (c:Ca n tb):Q0n n tb=true:=by
 unfold Q0n Q1h;rw [F5,G7,G7];refine ⟨fun h q=>by simp [c.nn h (E6.mp q)],fun h q=>?_⟩;have q:=E6.mp q;cases B:U9 tb h with
 | false=>simp
 | true=>rw [(Qb7 n tb q).mpr (c.bz h q B)]; rfl
theorem Rc.mono {t1 t2:List (List Int)} (h:∀ a b,a < n->b < n->ent t1 a b<=ent t2 a b) {g:Nat} (r:Rc n t1 g):Rc n t2 g:=by
 induction r with
 | @made k hl B=>
  refine .made hl ?_;unfold Q00 at *;have:=h k k hl hl;simp at B;simp; omega
 | @lent o k r hl G q=>
  have:=h o k r.lt hl;exact .lent q hl (by omega)
theorem zt (w:Wt' n tb) {h:Nat} (G:h < n):U9 tb h=true <-> ∃ j,j<=n/\j≠h/\0 < ent tb h j:=by
 rw [<- Qq5 w G];unfold Qkd;rw [List.any_eq_true];constructor
 ·rintro ⟨j,B,q⟩;simp at q;exact ⟨j,by have:=E6.mp B; omega,q.1,q.2⟩
 ·rintro ⟨j,B,q1,q2⟩;exact ⟨j,E6.mpr (by omega),by simp [q1,q2]⟩
theorem Ca.rc_of (w:Wt' n tb) (c:Ca n tb) {i:Nat} (hi:i < n) (O:1<=Qi tb i):Rc n tb i:=by
 rw [qk w.sz hi] at O;have I:ent tb i i<=W4 n (fun j=>ent tb i j):=Q8t (fun j U=>w.ent_nn hi (E8 U)) hi
 have J:=w.ent_nn hi (O8 n);have:∃ o,o < n/\0 < ent tb o i:=by
  refine Classical.byContradiction fun q=>?_
  have:W4 n (fun o=>ent tb o i)=W4 n fun _=>0:=Ud fun o B=>by
   have h1:=w.ent_nn B (E8 hi);have h2:¬ 0 < ent tb o i:=fun z=>q ⟨o,B,z⟩
   omega
  rw [Q2n] at this;omega
 obtain ⟨o,B,G⟩:=this
 by_cases e:o=i
 ·subst e;exact .made hi (by unfold Q00; simp [G])
 ·exact .lent (c.bz o B ((zt w B).mpr ⟨i,E8 hi,fun z=>e z.symm,G⟩)) hi G
theorem Ca.make {i:Nat} (w:Wt' n tb) (c:Ca n tb) (hi:i < n) {k:Int} (U:0<=k) (I:Wt' n (Uh tb i i (ent tb i i + k))):Ca n (Uh tb i i (ent tb i i + k)):=by
 have G:∀ a b,ent tb a b<=ent (Uh tb i i (ent tb i i + k)) a b:=fun a b=>by
  rw [xm w.sz hi (E8 hi)]
  split
  ·rename_i q; rw [q.1,q.2]; omega
  ·omega
 refine ⟨fun h B=>?_,fun h B O=>?_⟩
 ·rw [Q1g w.sz hi (E8 hi) k B];have:=c.nn h B
  by_cases q:h=i <;> simp [q] at * <;> omega
 ·obtain ⟨j,J,q1,q2⟩:=(zt I B).mp O;rw [xm w.sz hi (E8 hi)] at q2;rw [bO (fun q=>q1 (by omega))] at q2
  exact (c.bz h B ((zt w B).mpr ⟨j,J,q1,q2⟩)).mono fun a b _ _=>G a b
theorem Ca.give {i:Nat} (w:Wt' n tb) (c:Ca n tb) (hi:i < n) (U:j<=n) (G:j≠i) {k:Int} (hk:0<=k) (hr:k<=Qi tb i) (J:1<=Qi tb i) (Y:Wt' n (Uh tb i j (ent tb i j + k))):Ca n (Uh tb i j (ent tb i j + k)):=by
 have I:∀ a b,ent tb a b<=ent (Uh tb i j (ent tb i j + k)) a b:=fun a b=>by
  rw [xm w.sz hi U]
  split
  ·rename_i q; rw [q.1,q.2]; omega
  ·omega
 refine ⟨fun h B=>?_,fun h B Z=>?_⟩
 ·rw [Q1g w.sz hi U k B];have:=c.nn h B
  by_cases q:h=i
  ·subst q;rw [bO (fun z=>G z.symm),bN rfl,bO (fun z=>G z.2)];omega
  ·by_cases q2:h=j
   ·rw [bN q2,bO q,bO (fun z=>q z.1)]; omega
   ·rw [bO q2,bO q,bO (fun z=>q z.1)]; omega
 ·by_cases q:h=i
  ·subst q;exact (c.rc_of w hi J).mono fun a b _ _=>I a b
  ·obtain ⟨b,O,q1,q2⟩:=(zt Y B).mp Z;rw [xm w.sz hi U,bO (fun z=>q z.1)] at q2;exact (c.bz h B ((zt w B).mpr ⟨b,O,q1,q2⟩)).mono fun a b _ _=>I a b
theorem Ca.zero (h1:1<=n) (Y:n<=8) (w:Wt' n (List.replicate n (Xx n))):Ca n (List.replicate n (Xx n)):=by
 have G:∀ a b,a < n->b<=n->ent (List.replicate n (Xx n)) a b=0:=fun a b O J=>by
  unfold ent Xx;rw [show (List.replicate n (List.replicate (n + 1) (0:Int))).getD a []=List.replicate (n + 1) 0 by rw [List.getD,List.getElem?_replicate,bN O]; rfl];rw [List.getD,List.getElem?_replicate,bN (by omega)]; rfl
 refine ⟨fun h B=>?_,fun h B J=>?_⟩
 ·rw [qk w.sz B,Ud (g:=fun _=>0) fun o I=>G o h I (E8 B),Ud (f:=fun j=>ent (List.replicate n (Xx n)) h j) (g:=fun _=>0) fun o I=>G h o B (E8 I),Q2n,G h n B (O8 n),G h h B (E8 B)]
  omega
 ·obtain ⟨j,U,_,q⟩:=(zt w B).mp J;rw [G h j B U] at q;omega
theorem Qeh (w:Wt' n tb) (st:Q1):Yn [Q5 tb] st=.ok (.bl (Q0n n tb)) st:=by
 have B:=w.n8;obtain ⟨s,v,e,hs⟩:=Qgg w.sz (by omega) st;have q:=Qba w st;rw [<- hs];generalize Q5 tb=T at *;simp -implicitDefEqProofs [Yn,Qh,Ux,q,e,atI,ixN]
theorem Wt'.set0 {i:Nat} (w:Wt' n tb) (hi:i < n) {x:Int} (J:0<=x):Wt' n (tb.set i ((tb.getD i []).set j x)):=by
 have O:=(w.sz.row hi).1;have I:=D6 O;generalize tb.getD i []=r at *;refine ⟨by rw [D9]; exact w.len,fun q B=>?_,fun q B y G=>?_,w.n1,w.n8⟩
 ·rcases List.mem_or_eq_of_mem_set B with B | rfl
  ·exact w.row q B
  ·rw [D9]; exact w.row r I
 ·rcases List.mem_or_eq_of_mem_set B with B | rfl
  ·exact w.nn q B y G
  ·rcases List.mem_or_eq_of_mem_set G with G | rfl
   ·exact w.nn r I y G
   ·exact J
theorem Q49 (xs:List α) (i:Nat) (x:α) (h:i < xs.length):xs.take i ++ [x] ++ xs.drop (i + 1)=xs.set i x:=by
 rw [List.set_eq_take_append_cons_drop,bN h,F8]; rfl
theorem Qf6 {i:Nat} (z:Sz n tb) (hn:n<=100) (hi:i < n) (G:j<=n) (k:Int) (st:Q1):zw [Q5 tb,.int i,.int j,.int k] st=.ok (Q5 (Uh tb i j (ent tb i j + k))) st:=by
 have c0:=xt z hi G st;have q:=(z.row hi).2;have J:Qt ((tb.getD i []).set j (ent tb i j + k))=.tup (((tb.getD i []).take j).map .int ++ [.int (ent tb i j + k)] ++ ((tb.getD i []).drop (j + 1)).map .int):=by
  unfold Qt;rw [<- Q49 _ _ _ (by omega),F3,F3]; rfl
 have g2:Q5 (Uh tb i j (ent tb i j + k))=.tup ((tb.take i).map Qt ++ [Qt ((tb.getD i []).set j (ent tb i j + k))] ++ (tb.drop (i + 1)).map Qt):=by
  unfold Q5 Uh;rw [<- Q49 _ _ _ (by rw [z.1]; exact hi),F3,F3]; rfl
 have I:cut ((tb.getD i []).map PV.int) none (some (j:Int))=((tb.getD i []).take j).map .int:=by rw [jg,zp]
 have c4:cut ((tb.getD i []).map PV.int) (some ((j:Int) + 1)) none=((tb.getD i []).drop (j + 1)).map .int:=by rw [jg]; exact congrArg _ (qz _ (j + 1))
 have c5:cut (tb.map Qt) none (some (i:Int))=(tb.take i).map Qt:=by rw [jg,zp]
 have O:cut (tb.map Qt) (some ((i:Int) + 1)) none=(tb.drop (i + 1)).map Qt:=by rw [jg]; exact congrArg _ (qz _ (i + 1))
 have Y:(((tb.getD i []).take j).map PV.int).length=j:=by rw [O2,List.length_take,q]; omega
 have Z:(((tb.getD i []).drop (j + 1)).map PV.int).length=n - j:=by rw [O2,List.length_drop,q]; omega
 have l5:((tb.take i).map Qt).length=i:=by rw [O2,List.length_take,z.1]; omega
 have l6:((tb.drop (i + 1)).map Qt).length=n - (i + 1):=by rw [O2,List.length_drop,z.1]
 have b1:j + 1<=1000000:=by omega
 have b2:j + 1 + (n - j)<=1000000:=by omega
 have b3:i + 1<=1000000:=by omega
 have b4:i + 1 + (n - (i + 1))<=1000000:=by omega
 have B:fin st (Q5 (Uh tb i j (ent tb i j + k))) st=.ok (Q5 (Uh tb i j (ent tb i j + k))) st:=Vm (by simp [Zq,Q5,Qt]);obtain ⟨c1,U⟩:=c0;have q1:oSl st (Qt (tb.getD i [])) none (some (j:Int))=.ok (.tup (((tb.getD i []).take j).map .int)) st:=by unfold Qt; rw [ja,I]
 have q2:oSl st (Qt (tb.getD i [])) (some ((j:Int) + 1)) none=.ok (.tup (((tb.getD i []).drop (j + 1)).map .int)) st:=by unfold Qt; rw [ja,c4]
 have q3:oSl st (Q5 tb) none (some (i:Int))=.ok (.tup ((tb.take i).map Qt)) st:=by unfold Q5; rw [ja,c5]
 have q4:oSl st (Q5 tb) (some ((i:Int) + 1)) none=.ok (.tup ((tb.drop (i + 1)).map Qt)) st:=by unfold Q5; rw [ja,O]
 rw [g2] at B ⊢;rw [J] at B ⊢;generalize ent tb i j=x at *;generalize ((tb.getD i []).take j).map PV.int=v3 at *;generalize ((tb.getD i []).drop (j + 1)).map PV.int=v4 at *;generalize (tb.take i).map Qt=v5 at *;generalize (tb.drop (i + 1)).map Qt=v6 at *;generalize Qt (tb.getD i [])=rv at *;generalize Q5 tb=T at *;simp -implicitDefEqProofs at B;simp -implicitDefEqProofs [zw,Qh,Q5v,c1,U,q1,q2,q3,q4,Ju,Y,Z,l5,l6,b1,b2,b3,b4,B]
inductive Dd where
 | mk (h:Nat) (k:Int)
 | ld (h q:Nat) (k:Int)
 | us (h:Nat) (k:Int)
def Dd.h:Dd->Nat
 | .mk h _=>h
 | .ld h _ _=>h
 | .us h _=>h
def Dd.k:Dd->Int
 | .mk _ k=>k
 | .ld _ _ k=>k
 | .us _ k=>k
def Dd.pl (n:Nat):Dd->Nat
 | .mk h _=>h
 | .ld _ q _=>q
 | .us _ _=>n
def Dd.isM:Dd->Bool
 | .mk _ _=>true
 | _=>false
def Dd.V:Dd->PV
 | .mk h k=>.tup [.str "make",.int h,.int k]
 | .ld h q k=>.tup [.str "lend",.int h,.int q,.int k]
 | .us h k=>.tup [.str "use",.int h,.int k]
def Dd.ok (n:Nat):Dd->Prop
 | .mk h k=>h < n/\1<=k
 | .ld h q k=>h < n/\q < n/\q≠h/\1<=k
 | .us h k=>h < n/\1<=k
theorem Dd.ok_h {d:Dd} (o:d.ok n):d.h < n:=by cases d <;> exact o.1
theorem Dd.ok_k {d:Dd} (o:d.ok n):1<=d.k:=by
 cases d with
 | mk h k=>exact o.2
 | ld h q k=>exact o.2.2.2
 | us h k=>exact o.2
theorem Dd.ok_pl {d:Dd} (o:d.ok n):d.pl n<=n:=by
 cases d with
 | mk h k=>exact E8 o.1
 | ld h q k=>exact E8 o.2.1
 | us h k=>exact O8 n
theorem W5 (x:Str) (ns:List Int) (hl:ns.length<=100) (st:Q1):Q9 [.tup (.str x :: ns.map .int)] st=.ok (.bl true) st:=by
 have G:cut (PV.str x :: ns.map .int) (some 1) none=ns.map .int:=qz _ 1;have B:Jf (Qg 0) Zg Jw [] (Zc [none] [some (.tup (.str x :: ns.map .int))]) (ns.map .int) st=.ok (ns.map fun _=>.bl true) st:=by
  refine Yf _ _ (by simp) fun i _=>⟨_,rfl,?_⟩
  simp [Zc,Jw,Kw]
 have e:(ns.map fun _=>PV.bl true)=(ns.map fun _=>true).map PV.bl:=by rw [L5]; rfl
 have I:(ns.map fun _=>true).all id=true:=by simp
 have a0:atI (PV.str x :: ns.map .int) 0=some (.str x):=Sm.atI_get (show (PV.str x :: ns.map .int)[0]?=some (.str x) from rfl);have q:(ns.map PV.int).length<=1000000:=by rw [O2]; omega
 rw [e] at B;have i1:isI "tuple" (.tup (.str x :: ns.map .int))=true:=rfl;have i2:isI "str" (.str x)=true:=rfl;have hz:¬ (((ns.map PV.int).length:Int) + 1=0):=by omega
 generalize (ns.map fun _=>true)=bs at *;generalize ns.map PV.int=J at *;simp -implicitDefEqProofs [Q9,Qh,J3,i1,i2,a0,G,B,I,Ju,q,hz,-F5]
theorem Qrp:¬ (Str.ofString "make" = Str.ofString "lend"):=by decide
theorem Qc2:¬ (Str.ofString "lend" = Str.ofString "make"):=by decide
theorem Qc0:¬ (Str.ofString "use" = Str.ofString "make"):=by decide
theorem Qc1:¬ (Str.ofString "use" = Str.ofString "lend"):=by decide
theorem Q6b {d:Dd} (o:d.ok n) (st:Q1):Jd [d.V] st=.ok (.bl true) st:=by
 have B:=Dd.ok_k o;cases d with
 | mk h k=>
  have t:=W5 "make" [h,k] (by simp) st;have a0:atI [PV.str "make",.int h,.int k] 0=some (.str "make"):=rfl;have a1:atI [PV.str "make",.int h,.int k] (-1)=some (.int k):=rfl;have B:(1:Int)<=k:=B;have t:Q9 [.tup [.str "make",.int h,.int k]] st=.ok (.bl true) st:=t;unfold Dd.V;simp -implicitDefEqProofs [Jd,Qh,Yz,t,a0,a1,B]
 | ld h q k=>
  have t:=W5 "lend" [h,q,k] (by simp) st;have a0:atI [PV.str "lend",.int h,.int q,.int k] 0=some (.str "lend"):=rfl;have a1:atI [PV.str "lend",.int h,.int q,.int k] (-1)=some (.int k):=rfl;have B:(1:Int)<=k:=B;have t:Q9 [.tup [.str "lend",.int h,.int q,.int k]] st=.ok (.bl true) st:=t;unfold Dd.V;simp -implicitDefEqProofs [Jd,Qh,Yz,t,a0,a1,B,Qc2]
 | us h k=>
  have t:=W5 "use" [h,k] (by simp) st;have a0:atI [PV.str "use",.int h,.int k] 0=some (.str "use"):=rfl;have a1:atI [PV.str "use",.int h,.int k] (-1)=some (.int k):=rfl;have B:(1:Int)<=k:=B;have t:Q9 [.tup [.str "use",.int h,.int k]] st=.ok (.bl true) st:=t;unfold Dd.V;simp -implicitDefEqProofs [Jd,Qh,Yz,t,a0,a1,B,Qc0,Qc1]
theorem Qav (U:tb.length=n) {d:Dd} (o:d.ok n) (st:Q1):Qn [Q5 tb,d.V] st=.ok .non st:=by
 have O:xx (fun ns=>.bl (ns.all id)) st [.lst [.bl true]]=.ok (.bl true) st:=Q0q _ st [true]
 have I:xx (fun ns=>.bl (ns.all id)) st [.lst [.bl true,.bl true]]=.ok (.bl true) st:=Q0q _ st [true,true]
 have G:∀ i:Nat,i < n->Ze [Q5 tb,.int i] st=.ok (.bl true) st:=fun i hi=>by
  have:=Vk (V:=Q5 tb) (n:=n) (st:=st) (by simp [Q5,U]) (i:Int);rw [show (decide ((0:Int)<=(i:Int)) && decide ((i:Int) < (n:Int)))=true by simp; omega] at this;exact this
 cases d with
 | mk h k=>
  have e:=G h o.1;have s1:cut [PV.str "make",.int h,.int k] (some 1) (some (-1))=[.int h]:=rfl;have a0:atI [PV.str "make",.int h,.int k] 0=some (.str "make"):=rfl;unfold Dd.V;generalize Q5 tb=T at *;simp -implicitDefEqProofs [Qn,Qh,Jt,s1,a0,Jf,Qg,Zg,Zc,J5,O,I,e,Ju,Qrp]
 | ld h q k=>
  have e:=G h o.1;have e2:=G q o.2.1;have s1:cut [PV.str "lend",.int h,.int q,.int k] (some 1) (some (-1))=[.int h,.int q]:=rfl;have a0:atI [PV.str "lend",.int h,.int q,.int k] 0=some (.str "lend"):=rfl;have a1:atI [PV.int (h:Int),.int q] 0=some (.int h):=rfl;have Y:atI [PV.int (h:Int),.int q] 1=some (.int q):=rfl;have J:((h:Int) == (q:Int))=false:=by rw [beq_eq_false_iff_ne]; have:=o.2.2.1; omega
  have B:¬ ((h:Int)=(q:Int)):=by have:=o.2.2.1; omega
  unfold Dd.V;generalize Q5 tb=T at *;simp -implicitDefEqProofs [Qn,Qh,Jt,s1,a0,a1,Y,Jf,Qg,Zg,Zc,J5,O,I,e,e2,Ju,J,B]
 | us h k=>
  have e:=G h o.1;have s1:cut [PV.str "use",.int h,.int k] (some 1) (some (-1))=[.int h]:=rfl;have a0:atI [PV.str "use",.int h,.int k] 0=some (.str "use"):=rfl;unfold Dd.V;generalize Q5 tb=T at *;simp -implicitDefEqProofs [Qn,Qh,Jt,s1,a0,Jf,Qg,Zg,Zc,J5,O,I,e,Ju,Qc1]
theorem Qid (B:tb.length=n) {d:Dd} (o:d.ok n) (st:Q1):Yk [Q5 tb,d.V] st=.ok (.int (d.pl n)) st:=by
 cases d with
 | mk h k=>
  have a0:atI [PV.str "make",.int h,.int k] 0=some (.str "make"):=rfl;have a1:atI [PV.str "make",.int h,.int k] 1=some (.int h):=rfl;unfold Dd.V Dd.pl;generalize Q5 tb=T at *;simp -implicitDefEqProofs [Yk,Qh,Vi,a0,a1]
 | ld h q k=>
  have a0:atI [PV.str "lend",.int h,.int q,.int k] 0=some (.str "lend"):=rfl;have a1:atI [PV.str "lend",.int h,.int q,.int k] 2=some (.int q):=rfl;unfold Dd.V Dd.pl;generalize Q5 tb=T at *;simp -implicitDefEqProofs [Yk,Qh,Vi,a0,a1,Qc2]
 | us h k=>
  have a0:atI [PV.str "use",.int h,.int k] 0=some (.str "use"):=rfl;have hl:(tb.map Qt).length=n:=by rw [O2]; exact B
  unfold Dd.V Dd.pl Q5;generalize tb.map Qt=T at *;simp -implicitDefEqProofs [Yk,Qh,Vi,a0,hl,Qc0,Qc1]
def Dd.fits (tb:List (List Int)) (d:Dd):Bool:=d.isM || decide (d.k<=Qi tb d.h)
def Dd.put (n:Nat) (tb:List (List Int)) (d:Dd):List (List Int):=Uh tb d.h (d.pl n) (ent tb d.h (d.pl n) + d.k)
theorem Dd.a0 (d:Dd) (st:Q1):∃ w:Str,oIx st d.V (.int 0)=.ok (.str w) st/\(w = "make" <-> d.isM=true):=by
 cases d with
 | mk h k=>exact ⟨"make",rfl,by simp [Dd.isM]⟩
 | ld h q k=>exact ⟨"lend",rfl,by simp [Dd.isM,Qc2]⟩
 | us h k=>exact ⟨"use",rfl,by simp [Dd.isM,Qc0]⟩
theorem Dd.a1 (d:Dd) (st:Q1):oIx st d.V (.int 1)=.ok (.int d.h) st:=by cases d <;> rfl
theorem Dd.al (d:Dd) (st:Q1):oIx st d.V (.int (-1))=.ok (.int d.k) st:=by cases d <;> rfl
theorem Q9p (w:Wt' n tb) {d:Dd} (o:d.ok n) (st:Q1):Kf [Q5 tb,d.V] st=if d.fits tb=true then .ok (Q5 (d.put n tb)) st else .exc ⟨"Short",some ("had",.int (Qi tb d.h))⟩ st:=by
 have h8:=w.n8;have e1:=Q6b o st;have e2:=Qav w.len o st;have e3:=Q7w w.sz (by omega) (Dd.ok_h o) st;have e4:=Qid w.len o st;have e5:=Qf6 w.sz (by omega) (Dd.ok_h o) (Dd.ok_pl o) d.k st;obtain ⟨x,U,G⟩:=d.a0 st;have I:=d.a1 st;have Y:=d.al st;have Z:st <+: st:=List.prefix_refl _;have hf:fin st (Q5 (d.put n tb)) st=.ok (Q5 (d.put n tb)) st:=Vm (by simp [Zq,Q5,Qt]);have J:Qd1 st ⟨"Short",some ("had",.int (Qi tb d.h))⟩ st=.exc ⟨"Short",some ("had",.int (Qi tb d.h))⟩ st:=by simp [Qd1,fz]
 unfold Dd.put Dd.fits at *;generalize Q5 (Uh tb d.h (d.pl n) (ent tb d.h (d.pl n) + d.k))=V2 at *;generalize Qi tb d.h=r at *;generalize Q5 tb=T at *;generalize d.V=DV at *;generalize (d.pl n:Int)=pl at *;generalize d.k=k at *;cases O:d.isM with
 | true=>
  have G:x = "make" := G.mpr O;subst G;simp -implicitDefEqProofs [Kf,Qh,Q5y,e1,e2,e4,e5,U,I,Y,hf]
 | false=>
  have B:¬ x = "make" := fun z=>by rw [G.mp z] at O; cases O
  by_cases hk:k<=r
  ·have q:¬ r < k:=by omega
   simp -implicitDefEqProofs [Kf,Qh,Q5y,e1,e2,e3,e4,e5,U,I,Y,hf,B,hk,q]
  ·have q:r < k:=by omega
   simp -implicitDefEqProofs [Kf,Qh,Q5y,e1,e2,e3,U,I,Y,J,B,hk,q]
theorem Qa {a b:MS} {Γ1:Gam} (h1:a Γ S=.nx Γ1 S1) (h2:b Γ1 S1=r):Qf a b Γ S=r:=by rw [Q5z,h1]; exact h2
theorem Qq {i:Nat} (h:m Γ S=.ok v S1):Qz i m Γ S=.nx (Γ.set i (some v)) S1:=by rw [Qp8,h]; rfl
theorem Qd (h1:mr Γ S=.ok ps S1) (h2:ps.length=n) (q:F ps S1=.ok v S2):Qc n F mr Γ S=.ok v S2:=by rw [Q83,h1,Qs,bN h2,q]
theorem Q6 {o:OP} {a b:ME} {q:Q1} {x y:PV} (h1:a Γ S=.ok x S1) (h2:b Γ S1=.ok y S2) (B:o S2 x y=.ok v q):mOp o a b Γ S=.ok v q:=by rw [Qtj,h1,Qs,h2,Qs,B]
theorem Q2 (h1:m Γ S=.ok p S1) (h2:mr Γ S1=.ok ps S2):Q0 m mr Γ S=.ok (p :: ps) S2:=by rw [Qj6,h1,Qs,h2,Qs]
theorem W9 {o:CF} (h1:mr Γ S=.ok ps S1) (h2:o S1 ps=.ok v S2):Qw o mr Γ S=.ok v S2:=by rw [Qj7,h1,Qs,h2]
theorem Q1t {b:MS} {w:Wt} (h1:mi Γ S=.ok (xs,w) S1) (h2:Kx ga b w xs Γ S1=r):Q62 ga mi b Γ S=r:=by rw [Qpa,h1]; exact h2
theorem Xm {c:MT} {a b:MS} (h1:c Γ S=.ok true S1) (h2:a Γ S1=r):Ye c a b Γ S=r:=by rw [Qe5,h1]; exact h2
theorem Yu {c:MT} {a b:MS} (h1:c Γ S=.ok false S1) (h2:b Γ S1=r):Ye c a b Γ S=r:=by rw [Qe5,h1]; exact h2
theorem Qd7 {Γ1:Gam} (h1:m Γ S=.ok p S1) (h2:ga p Γ=some Γ1):Qfz ga m Γ S=.nx Γ1 S1:=by rw [Qpc,h1]; show (match ga p Γ with | some Γ1=>SR.nx Γ1 S1 | none=>.stuck)=_; rw [h2]
theorem Q4x {w:Wt} (h1:m Γ S=.ok p S1) (h2:Ut S1 p=some (xs,w)) (q:xs.length<=1000000):Q03 m Γ S=.ok (xs,w) S1:=by rw [Qp9,h1,Qs,h2]; exact bN q
theorem zz {m:ML} (h:m Γ S=.ok ps S1):Xh m Γ S=.ok (.lst ps) S1:=by rw [Qp5,h,Qs]
theorem Ub {cap:List (Option Nat)} {mt:MT} {me:ME} {w:Wt} (h1:mi Γ S=.ok (xs,w) S1) (h2:Jf ga mt me w (Zc cap Γ) xs S1=.ok ys S2):Y3 cap ga mi mt me Γ S=.ok ys S2:=by rw [Qfy,h1,Qs,h2]; rfl
theorem qa {m:ML} (h:m Γ S=.ok ps S1):Q02 m Γ S=.ok (.ref S1.length) (S1 ++ [.lst ps]):=by rw [Qp7,h,Qs]
theorem qq {t:MT} {b:Bool} (h:t Γ S=.ok b S1):Xy t Γ S=.ok (!b) S1:=by rw [Qhd,h,Qs]
theorem Qp {b:Bool} (h:m Γ S=.ok (.bl b) S1):toB m Γ S=.ok b S1:=by rw [Qrc,h]; rfl
theorem Q50 {mi:ME} {B q:Q1} {o i:PV} (h1:m Γ S=.ok p S1) (h2:mo Γ S1=.ok o S2) (I:mi Γ S2=.ok i B) (G:Q05 B o i p=some q):x9 mo mi m Γ S=.nx Γ q:=by
 rw [Qfw,h1,Vh,h2,Vh,I,Vh,G]
theorem Q3d {f:MF} {q:Q1} (h1:mo Γ S=.ok p S1) (h2:xi S1 p=some xs) (G:mr Γ S1=.ok ps S2) (B:f S2 p ps=.ok v q):Wd (mBM f mo mr) Γ S=.nx Γ q:=by
 rw [Q2c,Qtn,h1,Qs];simp only [h2];rw [G,Qs,B,Vh]
theorem xk (h:m Γ S=.ok v S1):Wd m Γ S=.nx Γ S1:=by rw [Q2c,h]; rfl
theorem Qwc {a b:MT} (h:a Γ S=.ok true S1):Q3q a b Γ S=.ok true S1:=by rw [Qde,h]; rfl
theorem Qnt {a b:MT} {r:Res Bool} (h:a Γ S=.ok false S1) (h2:b Γ S1=r):Q3q a b Γ S=r:=by rw [Qde,h]; exact h2
theorem qb {a b:MS} (h:a Γ S=.rt v S1):Qf a b Γ S=.rt v S1:=by rw [Q5z,h]
theorem Vg (h1:mr Γ S=.ok ps S1) (h2:ps.length<=1000000):Y2 mr Γ S=.ok (.tup ps) S1:=by rw [Qp6,h1,Qs]; exact bN h2
theorem Q8i {x:Exc} (h1:mr Γ S=.ok ps S1) (h2:ps.length=n) (q:F ps S1=.exc x S2):Qc n F mr Γ S=.exc x S2:=by rw [Q83,h1,Qs,bN h2,q]
theorem Q30 {i:Nat} {fs:List (Str × PV)} (h:S[i]?=some (.obj C fs)):Q17 C S (.ref i)=some (i,fs):=by
 unfold Q17;simp only [h,if_true]
theorem Ka {f:Str} {i:Nat} {fs:List (Str × PV)} {q:PV} (h1:mo Γ S=.ok (.ref i) S) (h2:S[i]?=some (.obj C fs)) (B:fs.lookup f=some q):Vr C f mo Γ S=.ok q S:=by
 rw [Qpb,h1,Qs,Q30 h2];simp only [B]
theorem Kj {f:Str} {i:Nat} {fs:List (Str × PV)} (h1:m Γ S=.ok p S1) (h2:mo Γ S1=.ok (.ref i) S1) (B:S1[i]?=some (.obj C fs)) (q:fs.length < 1000):zi C f mo m Γ S=.nx Γ (S1.set i (.obj C (zf f p fs))):=by
 rw [Qb0,h1,Vh,h2,Vh,Q30 B];exact bN q
theorem Qc5 {f:Str} {x:Exc} (h1:m Γ S=.exc x S1):zi C f mo m Γ S=.exc x S1:=by
 rw [Qb0,h1]; rfl
theorem jb {x:Str} {i:Nat} {fs:List (Str × PV)} (h1:mo Γ S=.ok (.ref i) S) (h2:S[i]?=some (.obj C fs)) (B:fs.lookup x=none) (q:mr Γ S=.ok ps S1) (G:ps.length + 1=n):zj C x n F mo mr Γ S=F (.ref i :: ps) S1:=by
 rw [Qj4,h1,Qs,Q30 h2];simp only [B,if_true];rw [q,Qs,bN G]
def hsF (h:Nat) (now last:List (List Int)):List (Str × PV):=[("number",.int h),("now",Q5 now),("kept",Q5 last)]
theorem s1:((Str.ofString "now") == (Str.ofString "number"))=false:=by decide +kernel
theorem s2:((Str.ofString "kept") == (Str.ofString "number"))=false:=by decide +kernel
theorem s3:((Str.ofString "kept") == (Str.ofString "now"))=false:=by decide +kernel
theorem s1':¬ (Str.ofString "number" = Str.ofString "now"):=by decide +kernel
theorem s2':¬ (Str.ofString "number" = Str.ofString "kept"):=by decide +kernel
theorem s3':¬ (Str.ofString "now" = Str.ofString "kept"):=by decide +kernel
theorem Q0w (h:Nat) (a b:List (List Int)):(hsF h a b).lookup (Str.ofString "number")=some (.int h):=by unfold hsF; rw [E2,beq_self_eq_true]
theorem Q38 (h:Nat) (a b:List (List Int)):(hsF h a b).lookup (Str.ofString "now")=some (Q5 a):=by unfold hsF; rw [E2,s1,E2,beq_self_eq_true]
theorem Qec (h:Nat) (a b:List (List Int)):(hsF h a b).lookup (Str.ofString "kept")=some (Q5 b):=by unfold hsF; rw [E2,s2,E2,s3,E2,beq_self_eq_true]
theorem Q22 (h:Nat) (a b c:List (List Int)):zf "now" (Q5 c) (hsF h a b)=hsF h c b:=by
 unfold hsF;rw [zf,bO s1',zf,bN rfl]
theorem Qi6 (h:Nat) (a b c:List (List Int)):zf "kept" (Q5 c) (hsF h a b)=hsF h a c:=by
 unfold hsF;rw [zf,bO s2',zf,bO s3',zf,bN rfl]
theorem Q39 (h:Nat) (a b:List (List Int)):(hsF h a b).length < 1000:=by unfold hsF; simp
theorem je {x:Str} (h1:(x == (Str.ofString "number"))=false) (h2:(x == (Str.ofString "now"))=false) (q:(x == (Str.ofString "kept"))=false) (h:Nat) (a b:List (List Int)):(hsF h a b).lookup x=none:=by
 unfold hsF;rw [E2,h1,E2,h2,E2,q]; rfl
variable {C:aA} {S:Q1} {n:Nat} {last:List (List Int)}
section
variable {i h:Nat} {now:List (List Int)}
def Q3r (C:aA) (S:Q1) (i n:Nat) (now last:List (List Int)) (d:Dd):Res PV:=if d.fits now=true then .ok .non (S.set i (.obj C (hsF d.h (d.put n now) last))) else .exc ⟨"Short",some ("had",.int (Qi now d.h))⟩ S
theorem Qp3 (B:S[i]?=some (.obj C (hsF h now last))) (w:Wt' n now) {k:Int} (o:(Dd.mk h k).ok n):Vx C [.ref i,.int k] S=Q3r C S i n now last (.mk h k):=by
 have e:=Q9p w o S;have I:(Vr C "now" (Q3 0)) [some (.ref i),some (.int k)] S=.ok (Q5 now) S:=Ka rfl B (Q38 _ _ _);have J:(Vr C "number" (Q3 0)) [some (.ref i),some (.int k)] S=.ok (.int h) S:=Ka rfl B (Q0w _ _ _);have G:(Q0 (Vr C "now" (Q3 0)) (Q0 (Y2 (Q0 (mC (.str "make")) (Q0 (Vr C "number" (Q3 0)) (Q0 (Q3 1) Q4)))) Q4)) [some (.ref i),some (.int k)] S=.ok [Q5 now,(Dd.mk h k).V] S:=Q2 I (Q2 (Vg (Q2 rfl (Q2 J rfl)) (by simp)) rfl);unfold Q3r;show Y7 (Kq C) 2 _ S=_;unfold Y7;rw [show (([.ref i,.int k]:List PV).map some ++ List.replicate (2 - [PV.ref i,.int k].length) none)=[some (.ref i),some (.int k)] from rfl];unfold Kq
 by_cases q:(Dd.mk h k).fits now=true
 ·rw [bN q] at e ⊢;rw [Kj (Qd (n:=2) G rfl e) rfl B (Q39 _ _ _),Q22]; rfl
 ·rw [bO q] at e ⊢;rw [Qc5 (Q8i (n:=2) G rfl e)]
theorem Qpe (B:S[i]?=some (.obj C (hsF h now last))) (w:Wt' n now) {t:Nat} {k:Int} (o:(Dd.ld h t k).ok n):Vy C [.ref i,.int t,.int k] S=Q3r C S i n now last (.ld h t k):=by
 have e:=Q9p w o S;have I:(Vr C "now" (Q3 0)) [some (.ref i),some (.int t),some (.int k)] S=.ok (Q5 now) S:=Ka rfl B (Q38 _ _ _);have J:(Vr C "number" (Q3 0)) [some (.ref i),some (.int t),some (.int k)] S=.ok (.int h) S:=Ka rfl B (Q0w _ _ _);have G:(Q0 (Vr C "now" (Q3 0)) (Q0 (Y2 (Q0 (mC (.str "lend")) (Q0 (Vr C "number" (Q3 0)) (Q0 (Q3 1) (Q0 (Q3 2) Q4))))) Q4)) [some (.ref i),some (.int t),some (.int k)] S=.ok [Q5 now,(Dd.ld h t k).V] S:=Q2 I (Q2 (Vg (Q2 rfl (Q2 J rfl)) (by simp)) rfl);unfold Q3r;show Y7 (Kr C) 3 _ S=_;unfold Y7;rw [show (([.ref i,.int t,.int k]:List PV).map some ++ List.replicate (3 - [PV.ref i,.int t,.int k].length) none)=[some (.ref i),some (.int t),some (.int k)] from rfl];unfold Kr
 by_cases q:(Dd.ld h t k).fits now=true
 ·rw [bN q] at e ⊢;rw [Kj (Qd (n:=2) G rfl e) rfl B (Q39 _ _ _),Q22]; rfl
 ·rw [bO q] at e ⊢;rw [Qc5 (Q8i (n:=2) G rfl e)]
theorem Qr7 (B:S[i]?=some (.obj C (hsF h now last))) (w:Wt' n now) {k:Int} (o:(Dd.us h k).ok n):Uq C [.ref i,.int k] S=Q3r C S i n now last (.us h k):=by
 have e:=Q9p w o S;have I:(Vr C "now" (Q3 0)) [some (.ref i),some (.int k)] S=.ok (Q5 now) S:=Ka rfl B (Q38 _ _ _);have J:(Vr C "number" (Q3 0)) [some (.ref i),some (.int k)] S=.ok (.int h) S:=Ka rfl B (Q0w _ _ _);have G:(Q0 (Vr C "now" (Q3 0)) (Q0 (Y2 (Q0 (mC (.str "use")) (Q0 (Vr C "number" (Q3 0)) (Q0 (Q3 1) Q4)))) Q4)) [some (.ref i),some (.int k)] S=.ok [Q5 now,(Dd.us h k).V] S:=Q2 I (Q2 (Vg (Q2 rfl (Q2 J rfl)) (by simp)) rfl);unfold Q3r;show Y7 (jc C) 2 _ S=_;unfold Y7;rw [show (([.ref i,.int k]:List PV).map some ++ List.replicate (2 - [PV.ref i,.int k].length) none)=[some (.ref i),some (.int k)] from rfl];unfold jc
 by_cases q:(Dd.us h k).fits now=true
 ·rw [bN q] at e ⊢;rw [Kj (Qd (n:=2) G rfl e) rfl B (Q39 _ _ _),Q22]; rfl
 ·rw [bO q] at e ⊢;rw [Qc5 (Q8i (n:=2) G rfl e)]
theorem Qpj (q:S[i]?=some (.obj C (hsF h now last))):Vz C [.ref i] S=.ok .non (S.set i (.obj C (hsF h now now))):=by
 show Y7 (Ks C) 1 _ S=_;unfold Y7 Ks;rw [show (([.ref i]:List PV).map some ++ List.replicate (1 - [PV.ref i].length) none)=[some (.ref i)] from rfl,Kj (Ka rfl q (Q38 _ _ _)) rfl q (Q39 _ _ _),Qi6]
theorem Qpw (q:S[i]?=some (.obj C (hsF h now last))):U0 C [.ref i] S=.ok .non (S.set i (.obj C (hsF h last last))):=by
 show Y7 (Kt C) 1 _ S=_;unfold Y7 Kt;rw [show (([.ref i]:List PV).map some ++ List.replicate (1 - [PV.ref i].length) none)=[some (.ref i)] from rfl,Kj (Ka rfl q (Qec _ _ _)) rfl q (Q39 _ _ _),Q22]
theorem Q9k (S:Q1) (a:List (List Int)):fin S (Q5 a) S=.ok (Q5 a) S:=Vm (by simp [Zq,Q5,Qt])
theorem Qg0 (q:S[i]?=some (.obj C (hsF h now last))):Yx C [.ref i] S=.ok (Q5 last) S:=by
 show Qh (Uy C) 1 _ S=_;unfold Qh Uy;rw [show (([.ref i]:List PV).map some ++ List.replicate (1 - [PV.ref i].length) none)=[some (.ref i)] from rfl,Q2b,Ka rfl q (Qec _ _ _)];exact Q9k S last
theorem Qhc (q:S[i]?=some (.obj C (hsF h now last))):V1 C [.ref i] S=.ok (Q5 now) S:=by
 show Qh (Xt C) 1 _ S=_;unfold Qh Xt;rw [show (([.ref i]:List PV).map some ++ List.replicate (1 - [PV.ref i].length) none)=[some (.ref i)] from rfl,Q2b,Ka rfl q (Q38 _ _ _)];exact Q9k S now
end
theorem Qq2 {i h:Nat} {now L:List (List Int)} (J:S[i]?=some (.obj C (hsF h now last))) (w:Wt' n now) (B:Wt' n L) (U:h < n) (I:Qaa (L.getD h []) (now.getD h [])=true):U1 C [.ref i,Q5 L] S=.ok .non (S.set i (.obj C (hsF h (Wk now L) last))):=by
 have h8:=w.n8;have q:lim=1000000:=rfl;have G:(Vr C "now" (Q3 0)) [some (.ref i),some (Q5 L)] S=.ok (Q5 now) S:=Ka rfl J (Q38 _ _ _);have O:(Vr C "number" (Q3 0)) [some (.ref i),some (Q5 L)] S=.ok (.int h) S:=Ka rfl J (Q0w _ _ _);have e1:=Qe0 (a:=now) (b:=L) (by rw [w.len,B.len]) S;have Y:L[h]?=some (L.getD h []):=getD_some (by rw [B.len]; exact U) [];have Z:now[h]?=some (now.getD h []):=getD_some (by rw [w.len]; exact U) [];have i1:oIx S (Q5 L) (.int h)=.ok (Qt (L.getD h [])) S:=by
  have:oIx S (Q5 L) (.int h)=okO S (atI (L.map Qt) (h:Int)):=rfl;rw [this,Xw,Sm.atI_get Y]; rfl
 have i2:oIx S (Q5 now) (.int h)=.ok (Qt (now.getD h [])) S:=by
  have:oIx S (Q5 now) (.int h)=okO S (atI (now.map Qt) (h:Int)):=rfl;rw [this,Xw,Sm.atI_get Z]; rfl
 have rl:∀ r∈now,r.length<=lim:=fun r I=>by rw [w.sz.2 r I,q]; omega
 have e2:=Q70 (L.getD h []) (now.getD h []) S (by rw [B.sz.2 _ (D6 Y),q]; omega);rw [I] at e2;have e3:=Qg3 (a:=now) (b:=L) (by rw [w.len,B.len]) (by rw [w.len,q]; omega) rl S;have step:Ku C [some (.ref i),some (Q5 L)] S=.nx [some (.ref i),some (Q5 L)] (S.set i (.obj C (zf "now" (Q5 (Wk now L)) (hsF h now last)))):=
  Qa (xk (Qd (n:=2) (Q2 G rfl) rfl e1)) (Qa (Yu (qq (Qp (Qd (n:=2) (Q2 (Q6 rfl O i1) (Q2 (Q6 G O i2) rfl)) rfl e2))) rfl) (Kj (Qd (n:=2) (Q2 G rfl) rfl e3) rfl J (Q39 _ _ _)))
 rw [Q22] at step;show Y7 (Ku C) 2 _ S=_;unfold Y7;rw [show (([.ref i,Q5 L]:List PV).map some ++ List.replicate (2 - [PV.ref i,Q5 L].length) none)=[some (.ref i),some (Q5 L)] from rfl,step]
abbrev Tab:=List (List Int)
inductive Dx where
 | own (d:Dd)
 | kp (i:Nat)
 | fl (i:Nat)
 | sd (i:Nat)
 | cm (l i:Nat)
def Dx.V:Dx->PV
 | .own d=>d.V
 | .kp i=>.tup [.str "keep",.int i]
 | .fl i=>.tup [.str "fall",.int i]
 | .sd i=>.tup [.str "send",.int i]
 | .cm l i=>.tup [.str "come",.int l,.int i]
structure RS where
 now:List Tab
 last:List Tab
 le:List Tab
variable {s:RS}
def Dx.ok (n:Nat) (s:RS):Dx->Prop
 | .own d=>d.ok n
 | .kp i=>i < n
 | .fl i=>i < n
 | .sd i=>i < n
 | .cm l i=>l < s.le.length/\i < n
def Zs (n:Nat) (s:RS):Dx->RS
 | .own d=>if d.fits (s.now.getD d.h [])=true then ⟨s.now.set d.h (d.put n (s.now.getD d.h [])),s.last,s.le⟩ else s
 | .kp i=>⟨s.now,s.last.set i (s.now.getD i []),s.le⟩
 | .fl i=>⟨s.now.set i (s.last.getD i []),s.last,s.le⟩
 | .sd i=>⟨s.now,s.last,s.le ++ [s.last.getD i []]⟩
 | .cm l i=>⟨s.now.set i (Wk (s.now.getD i []) (s.le.getD l [])),s.last,s.le⟩
def Q46 (s:RS):Dx->PV
 | .own d=>if d.fits (s.now.getD d.h [])=true then .str "done" else .int (Qi (s.now.getD d.h []) d.h)
 | _=>.str "done"
structure RI (n:Nat) (s:RS):Prop where
 ln:s.now.length=n
 ll:s.last.length=n
 wn:∀ i,i < n->Wt' n (s.now.getD i [])
 wl:∀ i,i < n->Wt' n (s.last.getD i [])
 we:∀ L∈s.le,Wt' n L
 up:∀ i j,i < n->j<=n->ent (s.last.getD i []) i j<=ent (s.now.getD i []) i j
 bn:∀ a i j,a < n->i < n->a≠i->j<=n->ent (s.now.getD a []) i j<=ent (s.last.getD i []) i j
 bl:∀ a i j,a < n->i < n->j<=n->ent (s.last.getD a []) i j<=ent (s.last.getD i []) i j
 be:∀ L∈s.le,∀ i j,i < n->j<=n->ent L i j<=ent (s.last.getD i []) i j
theorem Zf {xs:List α} {i:Nat} (hi:i < xs.length) (v d:α) (j:Nat):(xs.set i v).getD j d=if j=i then v else xs.getD j d:=by
 rw [F9,List.getElem?_set,F9]
 by_cases q:i=j
 ·subst q; rw [bN rfl,bN hi,bN rfl]; rfl
 ·rw [bO q,bO (fun z=>q z.symm)]
theorem Qi5 {tb:Tab} (w:Wt' n tb) {d:Dd} (o:d.ok n):Wt' n (d.put n tb):=by
 unfold Dd.put Uh;refine Wt'.set0 w (Dd.ok_h o) ?_;have h1:=w.ent_nn (Dd.ok_h o) (Dd.ok_pl o);have h2:=Dd.ok_k o;omega
theorem Qdk {tb:Tab} (w:Wt' n tb) {d:Dd} (o:d.ok n) (a b:Nat):ent tb a b<=ent (d.put n tb) a b/\(a≠d.h->ent (d.put n tb) a b=ent tb a b):=by
 unfold Dd.put;rw [xm w.sz (Dd.ok_h o) (Dd.ok_pl o)];have h2:=Dd.ok_k o;refine ⟨?_,fun h=>bO fun z=>h z.1⟩
 split
 ·rename_i z; rw [z.1,z.2]; omega
 ·exact Int.le_refl _
theorem Qpm {a b:Tab} (q:Wt' n a) (G:Wt' n b):Wt' n (Wk a b):=by
 refine Wt'.of_ent (Qm9 q.sz G.sz) q.n1 q.n8 fun i j hi B=>?_
 rw [Q2g q.sz G.sz hi B];exact Int.le_trans (q.ent_nn hi B) (Qj0 _ _)
theorem RI.step (r:RI n s) {x:Dx} (o:x.ok n s):RI n (Zs n s x):=by
 cases x with
 | own d=>
  have O:=Dd.ok_h o;unfold Zs
  by_cases q:d.fits (s.now.getD d.h [])=true
  ·simp only [bN q];have w:=r.wn d.h O;have hl:d.h < s.now.length:=by rw [r.ln]; exact O
   refine ⟨by simp only [D9]; exact r.ln,r.ll,fun i hi=>?_,r.wl,r.we,fun i j hi B=>?_,fun a i j J hi G B=>?_,r.bl,r.be⟩
   ·simp only [Zf hl]
    split
    ·exact Qi5 w o
    ·exact r.wn i hi
   ·simp only [Zf hl]
    split
    ·rename_i z; subst z;exact Int.le_trans (r.up _ j hi B) (Qdk w o _ _).1
    ·exact r.up i j hi B
   ·simp only [Zf hl]
    split
    ·rename_i z; subst z;rw [(Qdk w o i j).2 (fun z=>G z.symm)];exact r.bn _ i j J hi G B
    ·exact r.bn a i j J hi G B
  ·simp only [bO q]; exact r
 | kp I=>
  have O:I < n:=o;have hl:I < s.last.length:=by rw [r.ll]; exact O
  refine ⟨r.ln,by simp only [Zs,D9]; exact r.ll,r.wn,fun i hi=>?_,r.we,fun i j hi B=>?_,fun a i j J hi G B=>?_,fun a i j J hi B=>?_,fun L U i j hi B=>?_⟩
  ·simp only [Zs,Zf hl]
   split
   ·exact r.wn I O
   ·exact r.wl i hi
  ·simp only [Zs,Zf hl]
   split
   ·rename_i z; subst z; exact Int.le_refl _
   ·exact r.up i j hi B
  ·simp only [Zs,Zf hl]
   split
   ·rename_i z; subst z;exact Int.le_trans (r.bn a i j J hi G B) (r.up i j hi B)
   ·exact r.bn a i j J hi G B
  ·simp only [Zs,Zf hl];have Y:ent (s.last.getD a []) i j<=ent (s.last.getD i []) i j:=r.bl a i j J hi B
   split
   ·rename_i z; subst z
    split
    ·rename_i Z; subst Z; exact Int.le_refl _
    ·rename_i Z;exact r.bn _ i j J hi (fun z=>Z z.symm) B
   ·split
    ·rename_i Z; subst Z;exact Int.le_trans Y (r.up _ j hi B)
    ·exact Y
  ·simp only [Zs,Zf hl];have Y:=r.be L U i j hi B
   split
   ·rename_i z; subst z;exact Int.le_trans Y (r.up _ j hi B)
   ·exact Y
 | fl I=>
  have O:I < n:=o;have hl:I < s.now.length:=by rw [r.ln]; exact O
  refine ⟨by simp only [Zs,D9]; exact r.ln,r.ll,fun i hi=>?_,r.wl,r.we,fun i j hi B=>?_,fun a i j J hi G B=>?_,r.bl,r.be⟩
  ·simp only [Zs,Zf hl]
   split
   ·exact r.wl I O
   ·exact r.wn i hi
  ·simp only [Zs,Zf hl]
   split
   ·rename_i z; subst z; exact Int.le_refl _
   ·exact r.up i j hi B
  ·simp only [Zs,Zf hl]
   split
   ·rename_i z; subst z; exact r.bl _ i j J hi B
   ·exact r.bn a i j J hi G B
 | sd I=>
  have O:I < n:=o;refine ⟨r.ln,r.ll,r.wn,r.wl,fun L U=>?_,r.up,r.bn,r.bl,fun L U i j hi B=>?_⟩
  ·rcases F1.mp U with h | h
   ·exact r.we L h
   ·rw [List.mem_singleton.mp h]; exact r.wl I O
  ·rcases F1.mp U with h | h
   ·exact r.be L h i j hi B
   ·rw [List.mem_singleton.mp h]; exact r.bl I i j O hi B
 | cm l I=>
  obtain ⟨a2,O⟩:=o;have hl:I < s.now.length:=by rw [r.ln]; exact O
  have U:s.le.getD l []∈s.le:=D6 (getD_some a2 []);have wL:=r.we _ U;have wN:=r.wn I O;refine ⟨by simp only [Zs,D9]; exact r.ln,r.ll,fun i hi=>?_,r.wl,r.we,fun i j hi B=>?_,fun a i j J hi G B=>?_,r.bl,r.be⟩
  ·simp only [Zs,Zf hl]
   split
   ·exact Qpm wN wL
   ·exact r.wn i hi
  ·simp only [Zs,Zf hl]
   split
   ·rename_i z; subst z;rw [Q2g wN.sz wL.sz hi B];exact Int.le_trans (r.up _ j hi B) (Qj0 _ _)
   ·exact r.up i j hi B
  ·simp only [Zs,Zf hl]
   split
   ·rename_i z; subst z;rw [Q2g wN.sz wL.sz hi B];have Y:=r.bn _ i j J hi G B;have b2:=r.be _ U i j hi B;rcases Qe1 (ent (s.now.getD a []) i j) (ent (s.le.getD l []) i j) with e | e
    ·rw [e]; exact Y
    ·rw [e]; exact b2
   ·exact r.bn a i j J hi G B
theorem RI.row (r:RI n s) {L:Tab} (J:L∈s.le) {i:Nat} (hi:i < n):Qaa (L.getD i []) ((s.now.getD i []).getD i [])=true:=by
 unfold Qaa;rw [G7];intro z hz;obtain ⟨j,B⟩:=List.mem_iff_getElem?.mp hz;rw [List.getElem?_zip_eq_some] at B;have I:=r.we L J;have U:=r.wn i hi;have O:L[i]?=some (L.getD i []):=getD_some (by rw [I.len]; exact hi) [];have Y:=I.row _ (D6 O);have q:j<=n:=by have:=(O0.mp B.1).1; omega
 have G:=Int.le_trans (r.be L J i j hi q) (r.up i j hi q);unfold ent at G;rw [F9,B.1,F9,B.2] at G;simpa using G
theorem Q01 (S:Q1) (a:Str):oEq S (.str a) (.str a)=.ok (.bl true) S:=by simp
theorem Um {a b:Str} (S:Q1) (h:¬ a=b):oEq S (.str a) (.str b)=.ok (.bl false) S:=by simp [h]
theorem Z0:¬ (Str.ofString "make" = Str.ofString "lend"):=by decide +kernel
theorem Zy:¬ (Str.ofString "make" = Str.ofString "use"):=by decide +kernel
theorem Jj:¬ (Str.ofString "make" = Str.ofString "keep"):=by decide +kernel
theorem Jk:¬ (Str.ofString "make" = Str.ofString "fall"):=by decide +kernel
theorem Ji:¬ (Str.ofString "make" = Str.ofString "send"):=by decide +kernel
theorem Jm:¬ (Str.ofString "make" = Str.ofString "come"):=by decide +kernel
theorem J2:¬ (Str.ofString "lend" = Str.ofString "make"):=by decide +kernel
theorem Zp:¬ (Str.ofString "lend" = Str.ofString "use"):=by decide +kernel
theorem Jp:¬ (Str.ofString "lend" = Str.ofString "keep"):=by decide +kernel
theorem Jq:¬ (Str.ofString "lend" = Str.ofString "fall"):=by decide +kernel
theorem Jn:¬ (Str.ofString "lend" = Str.ofString "send"):=by decide +kernel
theorem Jr:¬ (Str.ofString "lend" = Str.ofString "come"):=by decide +kernel
theorem Js:¬ (Str.ofString "use" = Str.ofString "make"):=by decide +kernel
theorem Zj:¬ (Str.ofString "use" = Str.ofString "lend"):=by decide +kernel
theorem Zk:¬ (Str.ofString "use" = Str.ofString "keep"):=by decide +kernel
theorem Zm:¬ (Str.ofString "use" = Str.ofString "fall"):=by decide +kernel
theorem Zi:¬ (Str.ofString "use" = Str.ofString "send"):=by decide +kernel
theorem Zn:¬ (Str.ofString "use" = Str.ofString "come"):=by decide +kernel
theorem Z2:¬ (Str.ofString "keep" = Str.ofString "make"):=by decide +kernel
theorem Z3:¬ (Str.ofString "keep" = Str.ofString "lend"):=by decide +kernel
theorem Zz:¬ (Str.ofString "keep" = Str.ofString "use"):=by decide +kernel
theorem Z4:¬ (Str.ofString "keep" = Str.ofString "fall"):=by decide +kernel
theorem Z1:¬ (Str.ofString "keep" = Str.ofString "send"):=by decide +kernel
theorem Z5:¬ (Str.ofString "keep" = Str.ofString "come"):=by decide +kernel
theorem Z7:¬ (Str.ofString "fall" = Str.ofString "make"):=by decide +kernel
theorem Z8:¬ (Str.ofString "fall" = Str.ofString "lend"):=by decide +kernel
theorem Y0:¬ (Str.ofString "fall" = Str.ofString "use"):=by decide +kernel
theorem J9:¬ (Str.ofString "fall" = Str.ofString "keep"):=by decide +kernel
theorem Z6:¬ (Str.ofString "fall" = Str.ofString "send"):=by decide +kernel
theorem Z9:¬ (Str.ofString "fall" = Str.ofString "come"):=by decide +kernel
theorem Jx:¬ (Str.ofString "send" = Str.ofString "make"):=by decide +kernel
theorem Jy:¬ (Str.ofString "send" = Str.ofString "lend"):=by decide +kernel
theorem Zx:¬ (Str.ofString "send" = Str.ofString "use"):=by decide +kernel
theorem J7:¬ (Str.ofString "send" = Str.ofString "keep"):=by decide +kernel
theorem J8:¬ (Str.ofString "send" = Str.ofString "fall"):=by decide +kernel
theorem Jz:¬ (Str.ofString "send" = Str.ofString "come"):=by decide +kernel
theorem Za:¬ (Str.ofString "come" = Str.ofString "make"):=by decide +kernel
theorem Zb:¬ (Str.ofString "come" = Str.ofString "lend"):=by decide +kernel
theorem Y1:¬ (Str.ofString "come" = Str.ofString "use"):=by decide +kernel
theorem Jb:¬ (Str.ofString "come" = Str.ofString "keep"):=by decide +kernel
theorem Jc:¬ (Str.ofString "come" = Str.ofString "fall"):=by decide +kernel
theorem Ja:¬ (Str.ofString "come" = Str.ofString "send"):=by decide +kernel
theorem qx (S:Q1) (k:Int):oEq S (.int k) .non=.ok (.bl false) S:=rfl
def Dx.oth:Dx->Bool
 | .own _=>false
 | _=>true
theorem Qam (x:Dx) (S:Q1):Qk [x.V] S=.ok (.bl x.oth) S:=by
 cases x with
 | own d=>
  cases d with
  | mk h k=>
   have t:Q9 [.tup [.str "make",.int h,.int k]] S=.ok (.bl true) S:=W5 "make" [h,k] (by simp) S;have a0:atI [PV.str "make",.int h,.int k] 0=some (.str "make"):=rfl;unfold Dx.V Dd.V Dx.oth;simp -implicitDefEqProofs [Qk,Qh,Jg,Uz,qx,t,a0,Z0,Zy,Jj,Jk,Ji,Jm,J2,Zp,Jp,Jq,Jn,Jr,Js,Zj,Zk,Zm,Zi,Zn,Z2,Z3,Zz,Z4,Z1,Z5,Z7,Z8,Y0,J9,Z6,Z9,Jx,Jy,Zx,J7,J8,Jz,Za,Zb,Y1,Jb,Jc,Ja]
  | ld h q k=>
   have t:Q9 [.tup [.str "lend",.int h,.int q,.int k]] S=.ok (.bl true) S:=W5 "lend" [h,q,k] (by simp) S;have a0:atI [PV.str "lend",.int h,.int q,.int k] 0=some (.str "lend"):=rfl;unfold Dx.V Dd.V Dx.oth;simp -implicitDefEqProofs [Qk,Qh,Jg,Uz,qx,t,a0,Z0,Zy,Jj,Jk,Ji,Jm,J2,Zp,Jp,Jq,Jn,Jr,Js,Zj,Zk,Zm,Zi,Zn,Z2,Z3,Zz,Z4,Z1,Z5,Z7,Z8,Y0,J9,Z6,Z9,Jx,Jy,Zx,J7,J8,Jz,Za,Zb,Y1,Jb,Jc,Ja]
  | us h k=>
   have t:Q9 [.tup [.str "use",.int h,.int k]] S=.ok (.bl true) S:=W5 "use" [h,k] (by simp) S;have a0:atI [PV.str "use",.int h,.int k] 0=some (.str "use"):=rfl;unfold Dx.V Dd.V Dx.oth;simp -implicitDefEqProofs [Qk,Qh,Jg,Uz,qx,t,a0,Z0,Zy,Jj,Jk,Ji,Jm,J2,Zp,Jp,Jq,Jn,Jr,Js,Zj,Zk,Zm,Zi,Zn,Z2,Z3,Zz,Z4,Z1,Z5,Z7,Z8,Y0,J9,Z6,Z9,Jx,Jy,Zx,J7,J8,Jz,Za,Zb,Y1,Jb,Jc,Ja]
 | kp i=>
  have t:Q9 [.tup [.str "keep",.int i]] S=.ok (.bl true) S:=W5 "keep" [i] (by simp) S;have a0:atI [PV.str "keep",.int i] 0=some (.str "keep"):=rfl;unfold Dx.V Dx.oth;simp -implicitDefEqProofs [Qk,Qh,Jg,Uz,qx,t,a0,Z0,Zy,Jj,Jk,Ji,Jm,J2,Zp,Jp,Jq,Jn,Jr,Js,Zj,Zk,Zm,Zi,Zn,Z2,Z3,Zz,Z4,Z1,Z5,Z7,Z8,Y0,J9,Z6,Z9,Jx,Jy,Zx,J7,J8,Jz,Za,Zb,Y1,Jb,Jc,Ja]
 | fl i=>
  have t:Q9 [.tup [.str "fall",.int i]] S=.ok (.bl true) S:=W5 "fall" [i] (by simp) S;have a0:atI [PV.str "fall",.int i] 0=some (.str "fall"):=rfl;unfold Dx.V Dx.oth;simp -implicitDefEqProofs [Qk,Qh,Jg,Uz,qx,t,a0,Z0,Zy,Jj,Jk,Ji,Jm,J2,Zp,Jp,Jq,Jn,Jr,Js,Zj,Zk,Zm,Zi,Zn,Z2,Z3,Zz,Z4,Z1,Z5,Z7,Z8,Y0,J9,Z6,Z9,Jx,Jy,Zx,J7,J8,Jz,Za,Zb,Y1,Jb,Jc,Ja]
 | sd i=>
  have t:Q9 [.tup [.str "send",.int i]] S=.ok (.bl true) S:=W5 "send" [i] (by simp) S;have a0:atI [PV.str "send",.int i] 0=some (.str "send"):=rfl;unfold Dx.V Dx.oth;simp -implicitDefEqProofs [Qk,Qh,Jg,Uz,qx,t,a0,Z0,Zy,Jj,Jk,Ji,Jm,J2,Zp,Jp,Jq,Jn,Jr,Js,Zj,Zk,Zm,Zi,Zn,Z2,Z3,Zz,Z4,Z1,Z5,Z7,Z8,Y0,J9,Z6,Z9,Jx,Jy,Zx,J7,J8,Jz,Za,Zb,Y1,Jb,Jc,Ja]
 | cm l i=>
  have t:Q9 [.tup [.str "come",.int l,.int i]] S=.ok (.bl true) S:=W5 "come" [l,i] (by simp) S;have a0:atI [PV.str "come",.int l,.int i] 0=some (.str "come"):=rfl;unfold Dx.V Dx.oth;simp -implicitDefEqProofs [Qk,Qh,Jg,Uz,qx,t,a0,Z0,Zy,Jj,Jk,Ji,Jm,J2,Zp,Jp,Jq,Jn,Jr,Js,Zj,Zk,Zm,Zi,Zn,Z2,Z3,Zz,Z4,Z1,Z5,Z7,Z8,Y0,J9,Z6,Z9,Jx,Jy,Zx,J7,J8,Jz,Za,Zb,Y1,Jb,Jc,Ja]
theorem Q2h {x:Dx} (h:x.oth=true) (S:Q1):Jd [x.V] S=.ok (.bl false) S:=by
 cases x with
 | own d=>cases h
 | kp i=>
  have t:Q9 [.tup [.str "keep",.int i]] S=.ok (.bl true) S:=W5 "keep" [i] (by simp) S;have a0:atI [PV.str "keep",.int i] 0=some (.str "keep"):=rfl;unfold Dx.V;simp -implicitDefEqProofs [Jd,Qh,Yz,qx,t,a0,Z0,Zy,Jj,Jk,Ji,Jm,J2,Zp,Jp,Jq,Jn,Jr,Js,Zj,Zk,Zm,Zi,Zn,Z2,Z3,Zz,Z4,Z1,Z5,Z7,Z8,Y0,J9,Z6,Z9,Jx,Jy,Zx,J7,J8,Jz,Za,Zb,Y1,Jb,Jc,Ja]
 | fl i=>
  have t:Q9 [.tup [.str "fall",.int i]] S=.ok (.bl true) S:=W5 "fall" [i] (by simp) S;have a0:atI [PV.str "fall",.int i] 0=some (.str "fall"):=rfl;unfold Dx.V;simp -implicitDefEqProofs [Jd,Qh,Yz,qx,t,a0,Z0,Zy,Jj,Jk,Ji,Jm,J2,Zp,Jp,Jq,Jn,Jr,Js,Zj,Zk,Zm,Zi,Zn,Z2,Z3,Zz,Z4,Z1,Z5,Z7,Z8,Y0,J9,Z6,Z9,Jx,Jy,Zx,J7,J8,Jz,Za,Zb,Y1,Jb,Jc,Ja]
 | sd i=>
  have t:Q9 [.tup [.str "send",.int i]] S=.ok (.bl true) S:=W5 "send" [i] (by simp) S;have a0:atI [PV.str "send",.int i] 0=some (.str "send"):=rfl;unfold Dx.V;simp -implicitDefEqProofs [Jd,Qh,Yz,qx,t,a0,Z0,Zy,Jj,Jk,Ji,Jm,J2,Zp,Jp,Jq,Jn,Jr,Js,Zj,Zk,Zm,Zi,Zn,Z2,Z3,Zz,Z4,Z1,Z5,Z7,Z8,Y0,J9,Z6,Z9,Jx,Jy,Zx,J7,J8,Jz,Za,Zb,Y1,Jb,Jc,Ja]
 | cm l i=>
  have t:Q9 [.tup [.str "come",.int l,.int i]] S=.ok (.bl true) S:=W5 "come" [l,i] (by simp) S;have a0:atI [PV.str "come",.int l,.int i] 0=some (.str "come"):=rfl;unfold Dx.V;simp -implicitDefEqProofs [Jd,Qh,Yz,qx,t,a0,Z0,Zy,Jj,Jk,Ji,Jm,J2,Zp,Jp,Jq,Jn,Jr,Js,Zj,Zk,Zm,Zi,Zn,Z2,Z3,Zz,Z4,Z1,Z5,Z7,Z8,Y0,J9,Z6,Z9,Jx,Jy,Zx,J7,J8,Jz,Za,Zb,Y1,Jb,Jc,Ja]
theorem Q0k {i:Nat} {tb:Tab} (q:tb.length=n) (hi:i < n) (S:Q1):Ze [Q5 tb,.int i] S=.ok (.bl true) S:=by
 have:=Vk (V:=Q5 tb) (n:=n) (st:=S) (by simp [Q5,q]) (i:Int);rw [show (decide ((0:Int)<=(i:Int)) && decide ((i:Int) < (n:Int)))=true by simp; omega] at this;exact this
theorem Qcm {tb:Tab} (q:tb.length=n) {x:Dx} (o:x.ok n s) (I:S[Lr]?=some (.lst (s.le.map Q5))):Qm [Q5 tb,.ref Lr,x.V] S=.ok .non S:=by
 have ll:Zt S [.ref Lr]=.ok (.int s.le.length) S:=by
  have G:ListAt S (.ref Lr) (s.le.map Q5):=.inr (.inr ⟨Lr,rfl,I⟩);rw [G.len,O2]
 have e2:=Qam x S;cases x with
 | own d=>
  have e1:=Q6b o S;have e3:=Qav q o S;clear e2;show Qm [Q5 tb,.ref Lr,d.V] S=_;generalize Q5 tb=T at *;generalize d.V=V at *;simp -implicitDefEqProofs [Qm,Qh,Qy,e1,e3]
 | kp i=>
  have e1:=Q2h (x:=.kp i) rfl S;have e3:=Q0k q o S;have a0:atI [PV.str "keep",.int i] 0=some (.str "keep"):=rfl;have a1:atI [PV.str "keep",.int i] (-1)=some (.int i):=rfl;unfold Dx.V Dx.oth at *;generalize Q5 tb=T at *;simp -implicitDefEqProofs [Qm,Qh,Qy,e1,e2,e3,a0,a1,Z0,Zy,Jj,Jk,Ji,Jm,J2,Zp,Jp,Jq,Jn,Jr,Js,Zj,Zk,Zm,Zi,Zn,Z2,Z3,Zz,Z4,Z1,Z5,Z7,Z8,Y0,J9,Z6,Z9,Jx,Jy,Zx,J7,J8,Jz,Za,Zb,Y1,Jb,Jc,Ja]
 | fl i=>
  have e1:=Q2h (x:=.fl i) rfl S;have e3:=Q0k q o S;have a0:atI [PV.str "fall",.int i] 0=some (.str "fall"):=rfl;have a1:atI [PV.str "fall",.int i] (-1)=some (.int i):=rfl;unfold Dx.V Dx.oth at *;generalize Q5 tb=T at *;simp -implicitDefEqProofs [Qm,Qh,Qy,e1,e2,e3,a0,a1,Z0,Zy,Jj,Jk,Ji,Jm,J2,Zp,Jp,Jq,Jn,Jr,Js,Zj,Zk,Zm,Zi,Zn,Z2,Z3,Zz,Z4,Z1,Z5,Z7,Z8,Y0,J9,Z6,Z9,Jx,Jy,Zx,J7,J8,Jz,Za,Zb,Y1,Jb,Jc,Ja]
 | sd i=>
  have e1:=Q2h (x:=.sd i) rfl S;have e3:=Q0k q o S;have a0:atI [PV.str "send",.int i] 0=some (.str "send"):=rfl;have a1:atI [PV.str "send",.int i] (-1)=some (.int i):=rfl;unfold Dx.V Dx.oth at *;generalize Q5 tb=T at *;simp -implicitDefEqProofs [Qm,Qh,Qy,e1,e2,e3,a0,a1,Z0,Zy,Jj,Jk,Ji,Jm,J2,Zp,Jp,Jq,Jn,Jr,Js,Zj,Zk,Zm,Zi,Zn,Z2,Z3,Zz,Z4,Z1,Z5,Z7,Z8,Y0,J9,Z6,Z9,Jx,Jy,Zx,J7,J8,Jz,Za,Zb,Y1,Jb,Jc,Ja]
 | cm l i=>
  have e1:=Q2h (x:=.cm l i) rfl S;have e3:=Q0k q o.2 S;have a0:atI [PV.str "come",.int l,.int i] 0=some (.str "come"):=rfl;have a1:atI [PV.str "come",.int l,.int i] (-1)=some (.int i):=rfl;have B:atI [PV.str "come",.int l,.int i] 1=some (.int l):=rfl;have hl:l < s.le.length:=o.1;unfold Dx.V Dx.oth at *;generalize Q5 tb=T at *;generalize s.le.length=nl at *;simp -implicitDefEqProofs [Qm,Qh,Qy,e1,e2,e3,a0,a1,B,ll,hl,-Qkb,Z0,Zy,Jj,Jk,Ji,Jm,J2,Zp,Jp,Jq,Jn,Jr,Js,Zj,Zk,Zm,Zi,Zn,Z2,Z3,Zz,Z4,Z1,Z5,Z7,Z8,Y0,J9,Z6,Z9,Jx,Jy,Zx,J7,J8,Jz,Za,Zb,Y1,Jb,Jc,Ja]
theorem Q0p {m:MS} {q:Gam} (h:m (ps.map some ++ List.replicate (nl - ps.length) none) S=.nx q S'):Y7 m nl ps S=.ok .non S':=by unfold Y7; rw [h]
theorem zr {m:MS} (h:m (ps.map some ++ List.replicate (nl - ps.length) none) S=.rt v S'):Y7 m nl ps S=.ok v S':=by unfold Y7; rw [h]
theorem Zd {m:MS} (h:m (ps.map some ++ List.replicate (nl - ps.length) none) S=.rt v S'):Qh m nl ps S=fin S v S':=by unfold Qh; rw [h]
def hsV (B n:Nat):PV:=.lst ((List.range n).map fun i=>.ref (B + i))
structure HsAt (C:aA) (B n:Nat) (s:RS) (S:Q1):Prop where
 at_:∀ i,i < n->S[B + i]?=some (.obj C (hsF i (s.now.getD i []) (s.last.getD i [])))
theorem Qbd {B i:Nat} (hi:i < n) (S:Q1):oIx S (hsV B n) (.int i)=.ok (.ref (B + i)) S:=by
 have:oIx S (hsV B n) (.int i)=okO S (atI ((List.range n).map fun i=>PV.ref (B + i)) (i:Int)):=rfl
 rw [this,Xw,Sm.atI_get (show (List.range n)[i]?=some i by rw [List.getElem?_range hi])]; rfl
def Qnq (C:aA) (S:Q1) (i n:Nat) (now last:Tab) (d:Dd) (Γ:Gam):SR:=if d.fits now=true then .nx Γ (S.set i (.obj C (hsF d.h (d.put n now) last))) else .exc ⟨"Short",some ("had",.int (Qi now d.h))⟩ S
theorem Q9m {i:Nat} {now last:Tab} {d:Dd} (h:m Γ S=Q3r C S i n now last d):Wd m Γ S=Qnq C S i n now last d Γ:=by
 rw [Q2c,h];unfold Q3r Qnq
 split <;> rfl
theorem Qgp {i:Nat} {now last:Tab} {d:Dd} {m:MS} (h:m (ps.map some ++ List.replicate (nl - ps.length) none) S=Qnq C S i n now last d Γ):Y7 m nl ps S=Q3r C S i n now last d:=by
 unfold Y7;rw [h];unfold Q3r Qnq
 by_cases q:d.fits now=true
 ·rw [bN q,bN q]
 ·rw [bO q,bO q]
theorem Qjv {B:Nat} (A:HsAt C B n s S) (r:RI n s) {d:Dd} (o:d.ok n):Ys C [hsV B n,d.V] S=Q3r C S (B + d.h) n (s.now.getD d.h []) (s.last.getD d.h []) d:=by
 have G:=Dd.ok_h o;have w:=r.wn d.h G;have q:=A.at_ d.h G;have ix:=Qbd (B:=B) G S;refine Qgp (Γ:=[some (hsV B n),some d.V,some (.ref (B + d.h))]) ?_;show ju C [some (hsV B n),some d.V,none] S=_;refine Qa (Γ1:=[some (hsV B n),some d.V,some (.ref (B + d.h))]) (Qq (Q6 rfl (Q6 rfl rfl (Dd.a1 d S)) ix)) ?_;cases d with
 | mk h k=>
  refine Xm (Qp (Q6 (Q6 rfl rfl rfl) rfl (Q01 S _))) (Q9m ?_);exact (jb (i:=B + h) rfl q (je (by decide +kernel) (by decide +kernel) (by decide +kernel) _ _ _) (ps:=[.int k]) (S1:=S) (Q2 (Q6 rfl rfl rfl) rfl) rfl).trans (Qp3 q w o)
 | ld h t k=>
  refine Yu (Qp (Q6 (Q6 rfl rfl rfl) rfl (Um S J2))) (Xm (Qp (Q6 (Q6 rfl rfl rfl) rfl (Q01 S _))) (Q9m ?_));exact (jb (i:=B + h) rfl q (je (by decide +kernel) (by decide +kernel) (by decide +kernel) _ _ _) (ps:=[.int t,.int k]) (S1:=S) (Q2 (Q6 rfl rfl rfl) (Q2 (Q6 rfl rfl rfl) rfl)) rfl).trans (Qpe q w o)
 | us h k=>
  refine Yu (Qp (Q6 (Q6 rfl rfl rfl) rfl (Um S Js))) (Yu (Qp (Q6 (Q6 rfl rfl rfl) rfl (Um S Zj))) (Q9m ?_));exact (jb (i:=B + h) rfl q (je (by decide +kernel) (by decide +kernel) (by decide +kernel) _ _ _) (ps:=[.int k]) (S1:=S) (Q2 (Q6 rfl rfl rfl) rfl) rfl).trans (Qr7 q w o)
def Q13 (C:aA) (B Lr n:Nat) (s:RS) (S:Q1):Dx->Q1
 | .own d=>if d.fits (s.now.getD d.h [])=true then S.set (B + d.h) (.obj C (hsF d.h (d.put n (s.now.getD d.h [])) (s.last.getD d.h []))) else S
 | .kp i=>S.set (B + i) (.obj C (hsF i (s.now.getD i []) (s.now.getD i [])))
 | .fl i=>S.set (B + i) (.obj C (hsF i (s.last.getD i []) (s.last.getD i [])))
 | .sd i=>S.set Lr (.lst (s.le.map Q5 ++ [Q5 (s.last.getD i [])]))
 | .cm l i=>S.set (B + i) (.obj C (hsF i (Wk (s.now.getD i []) (s.le.getD l [])) (s.last.getD i [])))
theorem Q10 (h:S[L]?=some (.lst xs)) (hl:xs.length < 1000000) (y:PV):Ws S (.ref L) [y]=.ok .non (S.set L (.lst (xs ++ [y]))):=by
 simp only [Ws,chg,h];rw [bN (show xs.length < lim from hl)]
theorem Qd2 {B:Nat} (A:HsAt C B n s S) (I:S[Lr]?=some (.lst (s.le.map Q5))) (hl:s.le.length < 100000) (r:RI n s) {x:Dx} (o:x.ok n s) (U:x.oth=true):Wx C [hsV B n,.ref Lr,x.V] S=.ok .non (Q13 C B Lr n s S x):=by
 have Y:ListAt S (.ref Lr) (s.le.map Q5):=.inr (.inr ⟨Lr,rfl,I⟩);cases x with
 | own d=>cases U
 | kp i=>
  have hi:i < n:=o;have q:=A.at_ i hi;have st:W1 C [some (hsV B n),some (.ref Lr),some (Dx.kp i).V,none] S=.nx [some (hsV B n),some (.ref Lr),some (Dx.kp i).V,some (.ref (B + i))] (Q13 C B Lr n s S (.kp i)):=
   Qa (Qq (Q6 rfl (Q6 rfl rfl rfl) (Qbd hi S))) (Xm (Qp (Q6 (Q6 rfl rfl rfl) rfl (Q01 S _))) (xk ((jb (i:=B + i) rfl q (je (by decide +kernel) (by decide +kernel) (by decide +kernel) _ _ _) (ps:=[]) (S1:=S) rfl rfl).trans (Qpj q))))
  exact Q0p st
 | fl i=>
  have hi:i < n:=o;have q:=A.at_ i hi;have st:W1 C [some (hsV B n),some (.ref Lr),some (Dx.fl i).V,none] S=.nx [some (hsV B n),some (.ref Lr),some (Dx.fl i).V,some (.ref (B + i))] (Q13 C B Lr n s S (.fl i)):=
   Qa (Qq (Q6 rfl (Q6 rfl rfl rfl) (Qbd hi S))) (Yu (Qp (Q6 (Q6 rfl rfl rfl) rfl (Um S J9))) (Xm (Qp (Q6 (Q6 rfl rfl rfl) rfl (Q01 S _))) (xk ((jb (i:=B + i) rfl q (je (by decide +kernel) (by decide +kernel) (by decide +kernel) _ _ _) (ps:=[]) (S1:=S) rfl rfl).trans (Qpw q)))))
  exact Q0p st
 | sd i=>
  have hi:i < n:=o;have q:=A.at_ i hi;have lt:zj C "letter" 1 (Yx C) (Q3 3) Q4 [some (hsV B n),some (.ref Lr),some (Dx.sd i).V,some (.ref (B + i))] S=.ok (Q5 (s.last.getD i [])) S:=(jb (i:=B + i) rfl q (je (by decide +kernel) (by decide +kernel) (by decide +kernel) _ _ _) (ps:=[]) (S1:=S) rfl rfl).trans (Qg0 q);have st:W1 C [some (hsV B n),some (.ref Lr),some (Dx.sd i).V,none] S=.nx [some (hsV B n),some (.ref Lr),some (Dx.sd i).V,some (.ref (B + i))] (Q13 C B Lr n s S (.sd i)):=
   Qa (Qq (Q6 rfl (Q6 rfl rfl rfl) (Qbd hi S))) (Yu (Qp (Q6 (Q6 rfl rfl rfl) rfl (Um S J7))) (Yu (Qp (Q6 (Q6 rfl rfl rfl) rfl (Um S J8))) (Xm (Qp (Q6 (Q6 rfl rfl rfl) rfl (Q01 S _)))
    (Q3d (p:=.ref Lr) rfl (Xj I) (Q2 lt rfl) (Q10 I (by rw [O2]; omega) _)))))
  exact Q0p st
 | cm l i=>
  obtain ⟨G,hi⟩:=o;have q:=A.at_ i hi;have J:s.le.getD l []∈s.le:=D6 (getD_some G []);have O:oIx S (.ref Lr) (.int l)=.ok (Q5 (s.le.getD l [])) S:=by
   rw [Y.ix,Xw,Sm.atI_get (getD_some G [])]; rfl
  have st:W1 C [some (hsV B n),some (.ref Lr),some (Dx.cm l i).V,none] S=.nx [some (hsV B n),some (.ref Lr),some (Dx.cm l i).V,some (.ref (B + i))] (Q13 C B Lr n s S (.cm l i)):=
   Qa (Qq (Q6 rfl (Q6 rfl rfl rfl) (Qbd hi S))) (Yu (Qp (Q6 (Q6 rfl rfl rfl) rfl (Um S Jb))) (Yu (Qp (Q6 (Q6 rfl rfl rfl) rfl (Um S Jc))) (Yu (Qp (Q6 (Q6 rfl rfl rfl) rfl (Um S Ja)))
    (xk ((jb (i:=B + i) rfl q (je (by decide +kernel) (by decide +kernel) (by decide +kernel) _ _ _) (ps:=[Q5 (s.le.getD l [])]) (S1:=S) (Q2 (Q6 rfl (Q6 rfl rfl rfl) O) rfl) rfl).trans (Qq2 q (r.wn i hi) (r.we _ J) hi (r.row J hi)))))))
  exact Q0p st
theorem Qgy {B:Nat} (A:HsAt C B n s S) (J:S[Lr]?=some (.lst (s.le.map Q5))) (hl:s.le.length < 100000) (r:RI n s) {x:Dx} (o:x.ok n s):jh C [hsV B n,.ref Lr,x.V] S=.ok (Q46 s x) (Q13 C B Lr n s S x):=by
 have e1:(toB (Qc 1 Qk (Q0 (Q3 2) Q4))) [some (hsV B n),some (.ref Lr),some x.V,none] S=.ok x.oth S:=Qp (Qd (n:=1) (Q2 rfl rfl) rfl (Qam x S));cases G:x.oth with
 | true=>
  rw [G] at e1;have st:Xz C [some (hsV B n),some (.ref Lr),some x.V,none] S=.rt (.str "done") (Q13 C B Lr n s S x):=qb (Xm e1 (Qa (xk (Qd (n:=3) (Q2 rfl (Q2 rfl (Q2 rfl rfl))) rfl (Qd2 A J hl r o G))) rfl));refine (zr st).trans ?_;cases x with
  | own d=>cases G
  | _=>rfl
 | false=>
  rw [G] at e1;cases x with
  | own d=>
   have e2:=Qjv A r (d:=d) o;have e3:Qaz "Short" "had" 3 2 (Ys C) (Q0 (Q3 0) (Q0 (Q3 2) Q4)) [some (hsV B n),some (.ref Lr),some d.V,none] S=(match Ys C [hsV B n,d.V] S with
    | .ok _ I=>SR.nx [some (hsV B n),some (.ref Lr),some d.V,none] I
    | .exc x I=>if x.cls = "Short" then (match x.fs with | some (f,.int z)=>if f = "had" then .rt (.int z) I else .stuck | _=>.stuck) else .stuck
    | .stuck=>.stuck):=by
    rw [Qj2,Q2 (m:=Q3 0) (p:=hsV B n) (S1:=S) rfl (Q2 (m:=Q3 2) (p:=d.V) (S1:=S) rfl (show Q4 _ S=.ok [] S from rfl)),Vh];exact bN ⟨rfl,show 3 < 4 by decide⟩
   rw [e2] at e3;unfold Q3r at e3
   by_cases q:d.fits (s.now.getD d.h [])=true
   ·rw [bN q] at e3;have st:Xz C [some (hsV B n),some (.ref Lr),some (Dx.own d).V,none] S=.rt (.str "done") (S.set (B + d.h) (.obj C (hsF d.h (d.put n (s.now.getD d.h [])) (s.last.getD d.h [])))):=Qa (Yu e1 rfl) (Qa e3 rfl);refine (zr st).trans ?_;unfold Q13 Q46;simp only [bN q]
   ·rw [bO q] at e3;have e3:Qaz "Short" "had" 3 2 (Ys C) (Q0 (Q3 0) (Q0 (Q3 2) Q4)) [some (hsV B n),some (.ref Lr),some d.V,none] S=.rt (.int (Qi (s.now.getD d.h []) d.h)) S:=e3.trans (by simp);have st:Xz C [some (hsV B n),some (.ref Lr),some (Dx.own d).V,none] S=.rt (.int (Qi (s.now.getD d.h []) d.h)) S:=Qa (Yu e1 rfl) (qb e3);refine (zr st).trans ?_;unfold Q13 Q46;simp only [bO q]
  | kp i=>cases G
  | fl i=>cases G
  | sd i=>cases G
  | cm l i=>cases G
theorem Qsx {B:Nat} (A:HsAt C B n s S) (Y:S[Lr]?=some (.lst (s.le.map Q5))) (a3:B + n<=Lr) (r:RI n s) {x:Dx} (o:x.ok n s):HsAt C B n (Zs n s x) (Q13 C B Lr n s S x)/\(Q13 C B Lr n s S x)[Lr]?=some (.lst ((Zs n s x).le.map Q5))/\(∀ t,(t < B\/Lr < t)->(Q13 C B Lr n s S x)[t]?=S[t]?)/\(Q13 C B Lr n s S x).length=S.length:=by
 have I:∀ (h:Nat) (a b:Tab),h < n->∀ s':RS,s'.le=s.le->(∀ i,i < n->s'.now.getD i []=if i=h then a else s.now.getD i [])->(∀ i,i < n->s'.last.getD i []=if i=h then b else s.last.getD i []) ->
   HsAt C B n s' (S.set (B + h) (.obj C (hsF h a b)))/\(S.set (B + h) (.obj C (hsF h a b)))[Lr]?=some (.lst (s'.le.map Q5))/\(∀ t,(t < B\/Lr < t)->(S.set (B + h) (.obj C (hsF h a b)))[t]?=S[t]?)/\(S.set (B + h) (.obj C (hsF h a b))).length=S.length:=by
  intro h a b G s' e1 e2 e3;have U:=(O0.mp (A.at_ h G)).1;refine ⟨⟨fun i hi=>?_⟩,?_,fun t Z=>?_,D9⟩
  ·by_cases q:i=h
   ·subst q;rw [E3 U,e2 i hi,e3 i hi,bN rfl,bN rfl]
   ·rw [O7 (by omega),A.at_ i hi,e2 i hi,e3 i hi,bO q,bO q]
  ·rw [O7 (by omega),Y,e1]
  ·rw [O7 (by omega)]
 cases x with
 | own d=>
  have G:=Dd.ok_h o
  by_cases q:d.fits (s.now.getD d.h [])=true
  ·have O:Q13 C B Lr n s S (.own d)=S.set (B + d.h) (.obj C (hsF d.h (d.put n (s.now.getD d.h [])) (s.last.getD d.h []))):=bN q;have J:Zs n s (.own d)=⟨s.now.set d.h (d.put n (s.now.getD d.h [])),s.last,s.le⟩:=bN q;rw [O,J];refine I d.h _ _ G _ rfl (fun i hi=>?_) (fun i hi=>?_)
   ·exact Zf (by rw [r.ln]; exact G) _ _ _
   ·split
    ·rename_i z; rw [z]
    ·rfl
  ·have O:Q13 C B Lr n s S (.own d)=S:=bO q;have J:Zs n s (.own d)=s:=bO q;rw [O,J];exact ⟨A,Y,fun _ _=>rfl,rfl⟩
 | kp h=>
  have G:h < n:=o;refine I h _ _ G _ rfl (fun i hi=>?_) (fun i hi=>?_)
  ·split
   ·rename_i z; rw [z]; rfl
   ·rfl
  ·exact Zf (by rw [r.ll]; exact G) _ _ _
 | fl h=>
  have G:h < n:=o;refine I h _ _ G _ rfl (fun i hi=>?_) (fun i hi=>?_)
  ·exact Zf (by rw [r.ln]; exact G) _ _ _
  ·split
   ·rename_i z; rw [z]; rfl
   ·rfl
 | sd h=>
  have G:h < n:=o;have U:=(O0.mp Y).1;refine ⟨⟨fun i hi=>?_⟩,?_,fun t Z=>?_,D9⟩
  ·show (S.set Lr _)[B + i]?=_;rw [O7 (by omega)];exact A.at_ i hi
  ·show (S.set Lr _)[Lr]?=some (.lst ((s.le ++ [s.last.getD h []]).map Q5));rw [E3 U,F3]; rfl
  ·show (S.set Lr _)[t]?=_;rw [O7 (by omega)]
 | cm l h=>
  obtain ⟨a2,G⟩:=o;refine I h _ _ G _ rfl (fun i hi=>?_) (fun i hi=>?_)
  ·exact Zf (by rw [r.ln]; exact G) _ _ _
  ·split
   ·rename_i z; rw [z]; rfl
   ·rfl
theorem jt (w:Wt' n tb) (c:Ca n tb) (st:Q1):Je [Q5 tb] st=.ok .non st:=by
 have e:=Qeh w st;rw [c.comes] at e;generalize Q5 tb=T at *;simp -implicitDefEqProofs [Je,Qh,Wn,e]
def U3 (n:Nat):RS->List Dx->RS
 | s,[]=>s
 | s,x :: xs=>U3 n (Zs n s x) xs
def Q0r (n:Nat):RS->List Dx->List PV
 | _,[]=>[]
 | s,x :: xs=>Q46 s x :: Q0r n (Zs n s x) xs
def OkL (n:Nat):RS->List Dx->Prop
 | _,[]=>True
 | s,x :: xs=>x.ok n s/\OkL n (Zs n s x) xs
theorem Q91 (n:Nat):∀ (xs ys:List Dx) (s:RS),U3 n s (xs ++ ys)=U3 n (U3 n s xs) ys
 | [],_,_=>rfl
 | x :: xs,ys,s=>Q91 n xs ys (Zs n s x)
theorem Q9x (n:Nat):∀ (xs ys:List Dx) (s:RS),Q0r n s (xs ++ ys)=Q0r n s xs ++ Q0r n (U3 n s xs) ys
 | [],_,_=>rfl
 | x :: xs,ys,s=>congrArg (Q46 s x :: ·) (Q9x n xs ys (Zs n s x))
theorem Q4e (n:Nat):∀ (xs ys:List Dx) (s:RS),OkL n s (xs ++ ys) <-> OkL n s xs/\OkL n (U3 n s xs) ys
 | [],_,_=>⟨fun h=>⟨trivial,h⟩,fun h=>h.2⟩
 | x :: xs,ys,s=>by
  have q:=Q4e n xs ys (Zs n s x);exact ⟨fun h=>⟨⟨h.1,(q.mp h.2).1⟩,(q.mp h.2).2⟩,fun h=>⟨h.1.1,q.mpr ⟨h.1.2,h.2⟩⟩⟩
theorem RI.run :∀ {xs:List Dx} {s:RS},RI n s->OkL n s xs->RI n (U3 n s xs)
 | [],_,r,_=>r
 | x :: xs,s,r,o=>RI.run (xs:=xs) (r.step o.1) o.2
theorem Qpf (n:Nat) (s:RS) (x:Dx):(Zs n s x).le.length<=s.le.length + 1:=by
 cases x with
 | own d=>
  show (if d.fits (s.now.getD d.h [])=true then (⟨s.now.set d.h (d.put n (s.now.getD d.h [])),s.last,s.le⟩:RS) else s).le.length<=_
  split <;> simp
 | sd i=>simp [Zs]
 | _=>simp [Zs]
theorem Qcx (n:Nat):∀ (xs:List Dx) (s:RS),(U3 n s xs).le.length<=s.le.length + xs.length
 | [],s=>O8 _
 | x :: xs,s=>by
  have h1:=Qcx n xs (Zs n s x);have h2:=Qpf n s x;simp only [U3,D7];omega
theorem Q9w (n:Nat):∀ (xs:List Dx) (s:RS),(Q0r n s xs).length=xs.length
 | [],_=>rfl
 | x :: xs,s=>by simp only [Q0r,D7,Q9w n xs]
def s0 (n:Nat) (tb:Tab):RS:=⟨List.replicate n tb,List.replicate n tb,[]⟩
theorem Q20 {i:Nat} {tb:Tab} (hi:i < n):(List.replicate n tb).getD i []=tb:=by
 rw [F9,List.getElem?_replicate,bN hi]; rfl
theorem RI.start {tb:Tab} (w:Wt' n tb):RI n (s0 n tb):=by
 have e:∀ i,i < n->(List.replicate n tb).getD i []=tb:=fun i hi=>Q20 hi
 refine ⟨List.length_replicate,List.length_replicate,fun i hi=>?_,fun i hi=>?_,fun L q=>absurd q F6,fun i j hi G=>?_,fun a i j B hi I G=>?_,fun a i j B hi G=>?_,fun L q=>absurd q F6⟩
 ·show Wt' n ((List.replicate n tb).getD i []); rw [e i hi]; exact w
 ·show Wt' n ((List.replicate n tb).getD i []); rw [e i hi]; exact w
 ·exact Int.le_refl _
 ·show ent ((List.replicate n tb).getD a []) i j<=ent ((List.replicate n tb).getD i []) i j; rw [e i hi,e a B]; exact Int.le_refl _
 ·show ent ((List.replicate n tb).getD a []) i j<=ent ((List.replicate n tb).getD i []) i j; rw [e i hi,e a B]; exact Int.le_refl _
theorem Qpn {tb:Tab} (w:Wt' n tb) (c:Ca n tb) {h:Nat} (B:h < n) (S:Q1):Yh C [.ref S.length,.int h,Q5 tb] (S ++ [.obj C []])=.ok .non (S ++ [.obj C (hsF h tb tb)]):=by
 have e1:=jt w c (S ++ [.obj C []]);have e2:=Q0k w.len B (S ++ [.obj C []]);have gt:∀ fs:List (Str × PV),(S ++ [Cell.obj C fs])[S.length]?=some (.obj C fs):=fun fs=>by simp
 have st:∀ fs gs:List (Str × PV),(S ++ [Cell.obj C fs]).set S.length (.obj C gs)=S ++ [.obj C gs]:=fun fs gs=>by simp
 have G:zf "number" (.int h) []=[(Str.ofString "number",PV.int h)]:=rfl;have p2:zf "now" (Q5 tb) [(Str.ofString "number",PV.int h)]=[(Str.ofString "number",.int h),(Str.ofString "now",Q5 tb)]:=by
  rw [zf,bO s1']; rfl
 have q:zf "kept" (Q5 tb) [(Str.ofString "number",PV.int h),(Str.ofString "now",Q5 tb)]=hsF h tb tb:=by
  rw [zf,bO s2',zf,bO s3']; rfl
 have k3:Xg C [some (.ref S.length),some (.int h),some (Q5 tb)] (S ++ [.obj C []])=.nx [some (.ref S.length),some (.int h),some (Q5 tb)] (S ++ [.obj C (hsF h tb tb)]):=by
  refine Qa (xk (Qd (n:=1) (Q2 rfl rfl) rfl e1)) (Qa (Yu (qq (Qp (Qd (n:=2) (Q2 rfl (Q2 rfl rfl)) rfl e2))) rfl) ?_);refine Qa ((Kj (p:=.int h) rfl rfl (gt _) (by simp)).trans (by rw [G,st])) ?_;refine Qa ((Kj (p:=Q5 tb) rfl rfl (gt _) (by simp)).trans (by rw [p2,st])) ?_;exact (Kj (p:=Q5 tb) rfl rfl (gt _) (by simp)).trans (by rw [q,st])
 exact Q0p k3
theorem Qth {tb:Tab} (w:Wt' n tb) (c:Ca n tb) {h:Nat} (q:h < n) (S:Q1):qy C [some (.int h),some (Q5 tb)] S=.ok (.ref S.length) (S ++ [.obj C (hsF h tb tb)]):=by
 have B:(Q0 (Q3 0) (Q0 (Q3 1) Q4)) [some (.int h),some (Q5 tb)] S=.ok [.int h,Q5 tb] S:=Q2 rfl (Q2 rfl rfl);show ((Yh C [PV.ref S.length,PV.int h,Q5 tb] (S ++ [Cell.obj C []])).bind _)=_;rw [Qpn w c q S]; rfl
def h0 (C:aA) (n:Nat) (tb:Tab):Q1:=(List.range n).map fun i=>.obj C (hsF i tb tb)
theorem Q88 {tb:Tab} (w:Wt' n tb) (c:Ca n tb) (S:Q1) (Γ:Gam) (G:Γ[0]?=some (some (Q5 tb))):Jf (Qg 0) Zg (qy C) [] (Zc [none,some 0] Γ) (Zh 0 n) S=.ok ((List.range n).map fun i=>.ref (S.length + i)) (S ++ h0 C n tb):=by
 have J:Zc [none,some 0] Γ=[none,some (Q5 tb)]:=by
  simp [Zc,G]
 obtain ⟨q,S',e,e1,e2⟩:=Qgf (g:=fun k:Nat=>PV.int (k:Int)) (xs:=List.range n) (ga:=Qg 0) (me:=qy C) (w:=[]) (Γ0:=[none,some (Q5 tb)]) (st:=S)
  (fun i q st=>q=((List.range i).map fun i=>PV.ref (S.length + i))/\st=S ++ h0 C i tb) (fun _ _ _ _=>by simp)
  (fun i x q st I ⟨e1,e2⟩=>by
   subst e1; subst e2;have B:i < n:=by simpa using (O0.mp I).1
   rw [List.getElem?_range B] at I;cases I;refine ⟨_,rfl,_,_,Qth w c B _,?_,?_⟩
   ·rw [List.range_succ,F3,O6];simp [h0]
   ·rw [h0,h0,List.range_succ,F3,F8]; rfl)
  ⟨rfl,by simp [h0]⟩
 rw [G9] at e1 e2;rw [J,Uw,e,e1,e2]
theorem Qcq {β:Type} (l:List α) (d:α) (f:α->β):l.map f=(List.range l.length).map fun i=>f (l.getD i d):=by
 refine List.ext_getElem? fun i=>?_
 rw [E5,E5]
 by_cases h:i < l.length
 ·rw [List.getElem?_range h,O5 h];simp [List.getD,O5 h]
 ·rw [List.getElem?_eq_none (by omega),List.getElem?_eq_none (by rw [G9]; omega)]; rfl
theorem Qjh (C:aA) (n:Nat) (tb:Tab):(h0 C n tb).length=n:=by simp [h0]
theorem Qqv (C:aA) {i:Nat} (tb:Tab) (hi:i < n):(h0 C n tb)[i]?=some (.obj C (hsF i tb tb)):=by
 simp [h0,List.getElem?_range hi]
abbrev plG (tb:Tab) (DV:PV) (B n:Nat) (d:Option PV):Gam:=[some (Q5 tb),some DV,some (hsV B n),some (.ref (B + n)),some (.ref (B + n + 1)),d]
structure PI (C:aA) (n:Nat) (tb:Tab) (S:Q1) (pre:List Dx) (st:Q1):Prop where
 hs:HsAt C S.length n (U3 n (s0 n tb) pre) st
 le:st[S.length + n]?=some (.lst ((U3 n (s0 n tb) pre).le.map Q5))
 an:st[S.length + n + 1]?=some (.lst (Q0r n (s0 n tb) pre))
 old:∀ t,t < S.length->st[t]?=S[t]?
 len:st.length=S.length + n + 2
theorem Qhb {tb:Tab} (w:Wt' n tb) {pre:List Dx} {x:Dx} {q:List Dx} (hl:(pre ++ x :: q).length<=1000) (ok:OkL n (s0 n tb) (pre ++ x :: q)) (P:PI C n tb S pre st) (DV:PV):∃ J,j6 C (plG tb DV S.length n (some x.V)) st=.nx (plG tb DV S.length n (some x.V)) J/\PI C n tb S (pre ++ [x]) J:=by
 have o1:=(Q4e n pre (x :: q) _).mp ok;have r:RI n (U3 n (s0 n tb) pre):=(RI.start w).run o1.1;have U:=o1.2.1;have a5:pre.length<=1000:=by rw [O6] at hl; omega
 have a6:=Qcx n pre (s0 n tb);have I:(U3 n (s0 n tb) pre).le.length < 100000:=by
  have:(s0 n tb).le.length=0:=rfl;omega
 have e1:=Qcm w.len U P.le;have e2:=Qgy P.hs P.le I r U;obtain ⟨a1,Z,Y,a4⟩:=Qsx P.hs P.le (O8 _) r U;obtain ⟨O,G⟩:∃ z,Q13 C S.length (S.length + n) n (U3 n (s0 n tb) pre) st x=z:=⟨_,rfl⟩;rw [G] at e2 a1 Z Y a4;have B:O[S.length + n + 1]?=some (.lst (Q0r n (s0 n tb) pre)):=by rw [Y _ (.inr (by omega))]; exact P.an
 have hb:=(O0.mp B).1;have ap:=Q10 B (by rw [Q9w]; omega) (Q46 (U3 n (s0 n tb) pre) x);refine ⟨_,Qa (xk (Qd (n:=3) (Q2 rfl (Q2 rfl (Q2 rfl rfl))) rfl e1)) (Q3d (p:=.ref (S.length + n + 1)) rfl (Xj P.an) (Q2 (Qd (n:=3) (Q2 rfl (Q2 rfl (Q2 rfl rfl))) rfl e2) rfl) ap),?_⟩;have er:U3 n (s0 n tb) (pre ++ [x])=Zs n (U3 n (s0 n tb) pre) x:=by rw [Q91]; rfl
 have ea:Q0r n (s0 n tb) (pre ++ [x])=Q0r n (s0 n tb) pre ++ [Q46 (U3 n (s0 n tb) pre) x]:=by rw [Q9x]; rfl
 refine ⟨⟨fun i hi=>?_⟩,?_,?_,fun t ht=>?_,?_⟩
 ·rw [er,O7 (by omega)]; exact a1.at_ i hi
 ·rw [er,O7 (by omega)]; exact Z
 ·rw [ea,E3 hb]
 ·rw [O7 (by omega),Y t (.inl ht)]; exact P.old t ht
 ·rw [D9,a4]; exact P.len
theorem Qfb {C:aA} {tb:Tab} (w:Wt' n tb) (c:Ca n tb) {DV:PV} {xs:List Dx} {wt:Wt} (hs:∀ st:Q1,(∀ t,t < S.length->st[t]?=S[t]?)->Ut st DV=some (xs.map Dx.V,wt)/\wOk wt st) (hl:xs.length<=1000) (ok:OkL n (s0 n tb) xs) :
  ∃ S',X8 C [Q5 tb,DV] S=.ok (.tup [.ref (S.length + n + 1),.ref (S.length + n + 2)]) S'/\S'.length=S.length + n + 3/\(∀ t,t < S.length->S'[t]?=S[t]?)/\S'[S.length + n + 1]?=some (.lst (Q0r n (s0 n tb) xs))/\S'[S.length + n + 2]?=some (.lst ((U3 n (s0 n tb) xs).now.map Q5)):=by
 have h8:=w.n8;have O:lim=1000000:=rfl;have e1:=jt w c S;have eh:=Q88 (C:=C) w c S [some (Q5 tb),some DV,none,none,none,none] rfl;have Y:Zt S [Q5 tb]=.ok (.int n) S:=by simp [Q5,w.len]
 have Z:Yj (Q0 (Qw Zt (Q0 (Q3 0) Q4)) Q4) [some (Q5 tb),some DV,none,none,none,none] S=.ok (Zh 0 n,[]) S:=by
  rw [Ui,Q2 (W9 (Q2 (m:=Q3 0) (p:=Q5 tb) (S1:=S) rfl (show Q4 _ S=.ok [] S from rfl)) Y) (show Q4 _ S=.ok [] S from rfl),Qs];show (if -(lim:Int)<=(n:Int)/\(n:Int)<=lim then _ else _)=_;rw [bN (by rw [O]; omega),Int.toNat_natCast]
 obtain ⟨S1,B⟩:∃ S1,S ++ h0 C n tb=S1:=⟨_,rfl⟩;rw [B] at eh;have l1:S1.length=S.length + n:=by rw [<- B,O6,Qjh]
 obtain ⟨S2,q⟩:∃ S2,S1 ++ [Cell.lst []] ++ [Cell.lst []]=S2:=⟨_,rfl⟩;have l2:S2.length=S.length + n + 2:=by rw [<- q,O6,O6,l1]; rfl
 have P0:PI C n tb S [] S2:=by
  refine ⟨⟨fun i hi=>?_⟩,?_,?_,fun t ht=>?_,l2⟩
  ·rw [<- q,F8,O3 (by omega),<- B,D0 (by omega),Nat.add_sub_cancel_left,Qqv C tb hi];show _=some (Cell.obj C (hsF i ((List.replicate n tb).getD i []) ((List.replicate n tb).getD i [])));rw [Q20 hi]
  ·rw [<- q,F8,D0 (by omega),show S.length + n - S1.length=0 by omega]; rfl
  ·rw [<- q,F8,D0 (by omega),show S.length + n + 1 - S1.length=1 by omega]; rfl
  ·rw [<- q,F8,O3 (by omega),<- B,O3 ht]
 obtain ⟨I,_⟩:=hs S2 P0.old;obtain ⟨a4,G,ef,⟨d',rfl⟩,P⟩:=Q8a (g:=Dx.V) (xs:=xs) (fun pre Γ st=>(∃ d,Γ=plG tb DV S.length n d)/\PI C n tb S pre st) (ga:=Qg 5) (body:=j6 C) (w:=wt)
  (fun pre Γ st ⟨_,P⟩=>(hs st P.old).2)
  (fun pre x a3 Γ st hx ⟨⟨d,a2⟩,P⟩=>by
   subst a2;obtain ⟨a5,e,P2⟩:=Qhb w (by rw [<- hx]; exact hl) (by rw [<- hx]; exact ok) P DV;exact ⟨_,rfl,_,_,e,⟨_,rfl⟩,P2⟩)
  (Γ:=plG tb DV S.length n none) (st:=S2) ⟨⟨_,rfl⟩,P0⟩
 have r:=(RI.start w).run ok;obtain ⟨s,J⟩:∃ s,U3 n (s0 n tb) xs=s:=⟨_,rfl⟩;rw [J] at r ⊢;have U:=P.hs;rw [J] at U;have et:Jf (Qg 0) Zg (Q1u C) [] (Zc [none] (plG tb DV S.length n d')) ((List.range n).map fun i=>PV.ref (S.length + i)) G=.ok ((List.range n).map fun i=>Q5 (s.now.getD i [])) G:=by
  refine Yf _ _ (by simp) fun i hi=>⟨_,rfl,?_⟩
  have hi:i < n:=E6.mp hi;have hS:=U.at_ i hi;exact (jb (i:=S.length + i) rfl hS (je (by decide +kernel) (by decide +kernel) (by decide +kernel) _ _ _) (ps:=[]) (S1:=G) rfl rfl).trans (Qhc hS)
 have em:(List.range n).map (fun i=>Q5 (s.now.getD i []))=s.now.map Q5:=by
  have:=Qcq s.now [] Q5;rw [this,r.ln]
 rw [em] at et;have l3:=P.len;have k:Q0e C [some (Q5 tb),some DV,none,none,none,none] S=.rt (.tup [.ref (S.length + n + 1),.ref (S.length + n + 2)]) (G ++ [.lst (s.now.map Q5)]):=by
  refine Qa (xk (Qd (n:=1) (Q2 rfl rfl) rfl e1)) ?_;refine Qa (Γ1:=[some (Q5 tb),some DV,some (hsV S.length n),none,none,none]) (Qq (zz (Ub Z eh))) ?_;refine Qa (Γ1:=[some (Q5 tb),some DV,some (hsV S.length n),some (.ref (S.length + n)),none,none]) (S1:=S1 ++ [.lst []]) ((Qq (qa (ps:=[]) (S1:=S1) rfl)).trans (by rw [l1]; rfl)) ?_;refine Qa (Γ1:=plG tb DV S.length n none) (S1:=S2) ((Qq (qa (ps:=[]) (S1:=S1 ++ [.lst []]) rfl)).trans (by rw [O6,l1,q]; rfl)) ?_;refine Qa (Q1t (Q4x (p:=DV) rfl I (by rw [O2]; omega)) ef) ?_;have a:Q03 (Q3 2) (plG tb DV S.length n d') G=.ok ((List.range n).map fun i=>PV.ref (S.length + i),[]) G:=Q4x (p:=hsV S.length n) rfl rfl (by rw [O2,G9]; omega)
  rw [Q2b,Vg (Q2 (m:=Q3 4) (p:=.ref (S.length + n + 1)) rfl (Q2 (qa (Ub a et)) rfl)) (by simp),Vh,l3]
 refine ⟨_,zr k,by rw [O6,l3]; rfl,fun t ht=>?_,?_,?_⟩
 ·rw [O3 (by omega)]; exact P.old t ht
 ·rw [O3 (by omega)]; exact P.an
 ·rw [D0 (by omega),show S.length + n + 2 - G.length=0 by omega]; rfl
theorem Qd0 {st':Q1} (h:st'.length=st.length) (d:Int):fin st (.int d) st'=.ok (.int d) st':=by
 unfold fin
 by_cases q:st <+: st'
 ·rw [bN q];have:st=st':=q.eq_of_length h.symm;rw [<- this,fz]; rfl
 ·rw [bO q]
structure Mv (L:Nat) (S S':Q1):Prop where
 len:S'.length=S.length
 keep:∀ t,t≠L->S'[t]?=S[t]?
theorem Mv.refl (L:Nat) (S:Q1):Mv L S S:=⟨rfl,fun _ _=>rfl⟩
theorem Mv.trans (a:Mv L S S1) (b:Mv L S1 S2):Mv L S S2:=⟨b.len.trans a.len,fun t q=>(b.keep t q).trans (a.keep t q)⟩
theorem Q3b {st':Q1} (h:st'.length=st.length) (g:Zq 12 v=true):fin st v st'=.ok v st':=by
 unfold fin
 by_cases q:st <+: st'
 ·rw [bN q];have:st=st':=q.eq_of_length h.symm;rw [<- this,Q2f g (by decide)]; rfl
 ·rw [bO q]
def Tp (S:Q1) (L:Nat):Prop:=∃ c:Int,S[L]?=some (.lst [.int c])
theorem zu (T:Tp S L) (m:Nat) (h1:1<=m) (U:m < 2 ^ 8000):∃ (d:Nat) (S':Q1),d < m/\Tp S' L/\Mv L S S'/\Q8 [.ref L,.int m] S=.ok (.int d) S':=by
 obtain ⟨c,G⟩:=T;have hL:=(O0.mp G).1;have hV:ListAt S (.ref L) [.int c]:=.inr (.inr ⟨L,rfl,G⟩);have J:oIx S (.ref L) (.int 0)=.ok (.int c) S:=by rw [hV.ix]; rfl
 obtain ⟨d,hd,Y⟩:=Qza c h1;have I:Q05 S (.ref L) (.int 0) (.int (c / (m:Int)))=some (S.set L (.lst [.int (c / (m:Int))])):=by
  unfold Q05;simp only [G];rfl
 obtain ⟨S1,q⟩:∃ S1,S.set L (.lst [.int (c / (m:Int))])=S1:=⟨_,rfl⟩;rw [q] at I;have M:Mv L S S1:=⟨by rw [<- q,D9],fun t O=>by rw [<- q,O7 (fun u=>O u.symm)]⟩;refine ⟨d,S1,hd,⟨_,by rw [<- q,E3 hL]⟩,M,?_⟩;have Z:Q27 S (.int c) (.int m)=.ok (.int d) S:=by
  show (if 0 < (m:Int) then _ else _)=_;rw [bN (by omega),Y]
 have B:=Qfn S c m h1 U;have step:jy [some (.ref L),some (.int m),none] S=.rt (.int d) S1:=
  Qa (Γ1:=[some (.ref L),some (.int m),some (.int d)]) (Qq (Q6 (Q6 rfl rfl J) rfl Z)) (Qa (Q50 (Q6 (Q6 rfl rfl J) rfl B) rfl rfl I) rfl)
 exact (Zd step).trans (Qd0 M.len d)
theorem Q9u {m:Nat} (h:m < 10 ^ 100):m < 2 ^ 8000:=D3 h (F0 (Nat.pow_le_pow_left (show 10<=2 ^ 4 by decide) 100) (by rw [<- Nat.pow_mul]; exact Nat.pow_le_pow_right (by decide) (by decide)))
theorem Y4 (T:Tp S L) (m:Nat) (h1:1<=m) (q:m < 100):∃ (d:Nat) (S':Q1),d < m/\Tp S' L/\Mv L S S'/\Q8 [.ref L,.int m] S=.ok (.int d) S':=zu T m h1 (Q9u (D3 q (by decide)))
theorem Q6s (ns:List Int) (k:Nat) (S:Q1):∃ c:Int,Zv [.fro (ns.map .int),.int k] S=.ok (.ref S.length) (S ++ [.lst [.int c]]):=by
 obtain ⟨c,U⟩:∃ c:Int,Wp [.fro (ns.map .int),.int k] S=.ok (.int c) S:=by
  by_cases q:k < ns.length
  ·have e:atI (ns.map PV.int) (k:Int)=some (.int (ns.getD k 0)):=by rw [Xw,Sm.atI_get (getD_some q 0)]; rfl
   have hl:(ns.map PV.int).length=ns.length:=O2 _;refine ⟨ns.getD k 0,?_⟩;generalize ns.getD k 0=x at *;generalize ns.length=nl at *;generalize ns.map PV.int=G at *;simp -implicitDefEqProofs [Wp,Qh,Kp,hl,q,e]
  ·have hl:(ns.map PV.int).length=ns.length:=O2 _;have q':¬ (k:Int) < (ns.length:Int):=by omega
   refine ⟨0,?_⟩;generalize ns.length=nl at *;generalize ns.map PV.int=G at *;simp -implicitDefEqProofs [Wp,Qh,Kp,hl,q,q']
 by_cases q:c % 2=0
 ·refine ⟨c / 2,?_⟩;generalize ns.map PV.int=G at *;simp -implicitDefEqProofs [Zv,Y7,Km,U,q,Ju]
 ·obtain ⟨O,B⟩:∃ O:Int,(c % 2305843009213693951 * 48271 + 69621 * k + 11) % 2305843009213693951=O:=⟨_,rfl⟩;have J:=Q4m (c % 2305843009213693951 * 48271 + 69621 * k + 11) (b:=2305843009213693951) (by decide);rw [B] at J;obtain ⟨Z,S1,e,x,y,z,rfl,rfl,_⟩:=Q0m (g:=fun k:Nat=>PV.int (k:Int)) (xs:=List.range 5) (ga:=Qg 6) (body:=X7) (w:=[]) (Γ:=[some (.fro (ns.map .int)),some (.int k),some (.int c),some (.int 2305843009213693951),some (.int 0),some (.int O),none]) (st:=S)
   (fun _ Γ st'=>∃ (x y:Int) (z:Option PV),Γ=[some (.fro (ns.map .int)),some (.int k),some (.int c),some (.int 2305843009213693951),some (.int x),some (.int y),z]/\st'=S/\0<=y/\y < 2305843009213693951)
   (fun _ _ _ _=>by simp)
   (fun i t Γ st' hx ⟨x,y,z,e1,e2,y1,y2⟩=>by
    subst e1; subst e2;obtain ⟨w,Y⟩:∃ w:Int,(y * y + 40692 * k + t) % 2305843009213693951=w:=⟨_,rfl⟩;have I:=Q4m (y * y + 40692 * k + t) (b:=2305843009213693951) (by decide);rw [Y] at I;have yb:-18446744073709551616 < y/\y < 18446744073709551616:=by omega
    refine ⟨_,rfl,[some (.fro (ns.map .int)),some (.int k),some (.int c),some (.int 2305843009213693951),some (.int (x * 2305843009213693951 + y)),some (.int w),some (.int t)],st',?_,_,_,_,rfl,rfl,I.1,I.2⟩;generalize ns.map PV.int=G at *;simp -implicitDefEqProofs [X7,yb,Y])
   ⟨_,_,_,rfl,rfl,J.1,J.2⟩
  rw [<- Uw] at e;refine ⟨x,?_⟩;generalize ns.map PV.int=G at *;simp -implicitDefEqProofs [Zv,Y7,Km,U,q,Ju,B,e]
theorem xy {h:Nat} {tb:Tab} (z:Sz n tb) (hn:n<=100) (B:h < n) (st:Q1):J0 [Q5 tb,.int h] st=.ok (.int (Qi tb h)) st:=by
 have I:Jf (Qg 0) Zg Xp [] (Zc [none,some 1,some 0] [some (Q5 tb),some (.int h),none]) (Zh 0 n) st=.ok ((List.range n).map fun j=>.int (ent tb j h)) st:=by
  rw [Uw];refine Yf _ _ (by simp) fun j G=>⟨_,rfl,?_⟩
  have G:=E6.mp G;have c:=xt z G (E8 B) st;exact Q6 (Q6 rfl rfl c.1) rfl c.2
 obtain ⟨U,Y⟩:=xt z B (E8 B) st;have O:Jf (Qg 0) Zg Xn [] (Zc [none] [some (Q5 tb),some (.int h),some (.int (W4 n fun j=>ent tb j h))]) ((tb.getD h []).map .int) st=.ok ((tb.getD h []).map .int) st:=Yf _ _ (by simp) fun j G=>⟨_,rfl,rfl⟩
 have q:Zt st [Q5 tb]=.ok (.int n) st:=by simp [Q5,z.1]
 have J:Yj (Q0 (Qw Zt (Q0 (Q3 0) Q4)) Q4) [some (Q5 tb),some (.int h),none] st=.ok (Zh 0 n,[]) st:=by
  rw [Ui,Q2 (W9 (Q2 (m:=Q3 0) (p:=Q5 tb) (S1:=st) rfl (show Q4 _ st=.ok [] st from rfl)) q) (show Q4 _ st=.ok [] st from rfl),Qs];show (if -(lim:Int)<=(n:Int)/\(n:Int)<=lim then _ else _)=_;rw [bN (by rw [Ju]; omega),Int.toNat_natCast]
 have s1:X6 (fun ns=>some (.int ns.sum)) st [.lst ((List.range n).map fun j=>.int (ent tb j h))]=.ok (.int (W4 n fun j=>ent tb j h)) st:=by
  rw [Qgs]; rfl
 have s2:X6 (fun ns=>some (.int ns.sum)) st [.lst ((tb.getD h []).map .int)]=.ok (.int (tb.getD h []).sum) st:=by simp
 have Z:Ut st (Qt (tb.getD h []))=some ((tb.getD h []).map .int,[]):=rfl;have hl:((tb.getD h []).map PV.int).length<=1000000:=by rw [O2,(z.row B).2]; omega
 have step:qr [some (Q5 tb),some (.int h),none] st=.rt (.int (Qi tb h)) st:=by
  refine Qa (Γ1:=[some (Q5 tb),some (.int h),some (.int (W4 n fun j=>ent tb j h))]) (Qq (W9 (Q2 (zz (Ub J I)) rfl) s1)) ?_;rw [Q2b,Q6 (Q6 rfl (W9 (Q2 (zz (Ub (Q4x (Q6 rfl rfl U) Z hl) O)) rfl) s2) rfl) (Q6 (Q6 rfl rfl U) rfl Y) rfl,Vh];unfold Qi;rw [z.1];congr 2;omega
 exact (Zd step).trans (Qed st _)
theorem zn {a b:ME} {x y:PV} {r:Res PV} (h1:a Γ S=.ok x S1) (h2:b Γ S1=.ok y S2) (q:Q3j S2 x y=r):Vj a b Γ S=r:=by unfold Vj; rw [h1,Qs,h2,Qs,q]
theorem Q6t {a b:MT} {r:Res Bool} (h:a Γ S=.ok true S1) (h2:b Γ S1=r):xz a b Γ S=r:=by rw [Qa5,h]; exact h2
theorem Qks {a b:MT} (h:a Γ S=.ok false S1):xz a b Γ S=.ok false S1:=by rw [Qa5,h]; rfl
theorem Wj (h:m Γ S=.ok v S1):Jv m Γ S=.rt v S1:=by rw [Q2b,h]; rfl
theorem Q3i (S:Q1) (h:a=b):oEq S (.int a) (.int b)=.ok (.bl true) S:=by simp [h]
theorem Q6k (S:Q1) (h:¬ a=b):oEq S (.int a) (.int b)=.ok (.bl false) S:=by simp [h]
theorem Q63 (S:Q1) (h:a < b):oLt S (.int a) (.int b)=.ok (.bl true) S:=by simp [h]
theorem Q84 (S:Q1) (h:¬ a < b):oLt S (.int a) (.int b)=.ok (.bl false) S:=by
 have:oLt S (.int a) (.int b)=.ok (.bl (decide (a < b))) S:=by simp
 rw [this,bP h]
theorem Qqw (S:Q1) (h:b < a):(oI fun a b=>.bl (decide (b < a))) S (.int a) (.int b)=.ok (.bl true) S:=by
 show Res.ok (PV.bl (decide (b < a))) S=_; rw [bQ h]
theorem Qqx (S:Q1) (h:¬ b < a):(oI fun a b=>.bl (decide (b < a))) S (.int a) (.int b)=.ok (.bl false) S:=by
 show Res.ok (PV.bl (decide (b < a))) S=_; rw [bP h]
theorem Qtg (S:Q1) (h:0 < b):Q27 S (.int a) (.int b)=.ok (.int (a % b)) S:=by
 show (if 0 < b then _ else _)=_; rw [bN h]
theorem Q2k (S:Q1) (a b:Int):Yb S (.int a) (.int b)=.ok (.int (a + b)) S:=by simp
theorem Qrn (S:Q1) (a b:Int):(oI fun a b=>.int (a - b)) S (.int a) (.int b)=.ok (.int (a - b)) S:=rfl
theorem j7 {i:Nat} (z:Sz n tb) (hn:n<=100) (hi:i < n) (G:j<=n) (k:Int) (st:Q1):J6 [Q5 tb,.int i,.int j,.int k] st=.ok (Q5 (Uh tb i j (ent tb i j + k))) st:=by
 have c0:=xt z hi G st;have q:=(z.row hi).2;have J:Qt ((tb.getD i []).set j (ent tb i j + k))=.tup (((tb.getD i []).take j).map .int ++ [.int (ent tb i j + k)] ++ ((tb.getD i []).drop (j + 1)).map .int):=by
  unfold Qt;rw [<- Q49 _ _ _ (by omega),F3,F3]; rfl
 have g2:Q5 (Uh tb i j (ent tb i j + k))=.tup ((tb.take i).map Qt ++ [Qt ((tb.getD i []).set j (ent tb i j + k))] ++ (tb.drop (i + 1)).map Qt):=by
  unfold Q5 Uh;rw [<- Q49 _ _ _ (by rw [z.1]; exact hi),F3,F3]; rfl
 have I:cut ((tb.getD i []).map PV.int) none (some (j:Int))=((tb.getD i []).take j).map .int:=by rw [jg,zp]
 have c4:cut ((tb.getD i []).map PV.int) (some ((j:Int) + 1)) none=((tb.getD i []).drop (j + 1)).map .int:=by rw [jg]; exact congrArg _ (qz _ (j + 1))
 have c5:cut (tb.map Qt) none (some (i:Int))=(tb.take i).map Qt:=by rw [jg,zp]
 have O:cut (tb.map Qt) (some ((i:Int) + 1)) none=(tb.drop (i + 1)).map Qt:=by rw [jg]; exact congrArg _ (qz _ (i + 1))
 have Y:(((tb.getD i []).take j).map PV.int).length=j:=by rw [O2,List.length_take,q]; omega
 have Z:(((tb.getD i []).drop (j + 1)).map PV.int).length=n - j:=by rw [O2,List.length_drop,q]; omega
 have l5:((tb.take i).map Qt).length=i:=by rw [O2,List.length_take,z.1]; omega
 have l6:((tb.drop (i + 1)).map Qt).length=n - (i + 1):=by rw [O2,List.length_drop,z.1]
 have b1:j + 1<=1000000:=by omega
 have b2:j + 1 + (n - j)<=1000000:=by omega
 have b3:i + 1<=1000000:=by omega
 have b4:i + 1 + (n - (i + 1))<=1000000:=by omega
 have B:fin st (Q5 (Uh tb i j (ent tb i j + k))) st=.ok (Q5 (Uh tb i j (ent tb i j + k))) st:=Vm (by simp [Zq,Q5,Qt]);obtain ⟨c1,U⟩:=c0;have q1:oSl st (Qt (tb.getD i [])) none (some (j:Int))=.ok (.tup (((tb.getD i []).take j).map .int)) st:=by unfold Qt; rw [ja,I]
 have q2:oSl st (Qt (tb.getD i [])) (some ((j:Int) + 1)) none=.ok (.tup (((tb.getD i []).drop (j + 1)).map .int)) st:=by unfold Qt; rw [ja,c4]
 have q3:oSl st (Q5 tb) none (some (i:Int))=.ok (.tup ((tb.take i).map Qt)) st:=by unfold Q5; rw [ja,c5]
 have q4:oSl st (Q5 tb) (some ((i:Int) + 1)) none=.ok (.tup ((tb.drop (i + 1)).map Qt)) st:=by unfold Q5; rw [ja,O]
 rw [g2] at B ⊢;rw [J] at B ⊢;generalize ent tb i j=x at *;generalize ((tb.getD i []).take j).map PV.int=v3 at *;generalize ((tb.getD i []).drop (j + 1)).map PV.int=v4 at *;generalize (tb.take i).map Qt=v5 at *;generalize (tb.drop (i + 1)).map Qt=v6 at *;generalize Qt (tb.getD i [])=rv at *;generalize Q5 tb=T at *;simp -implicitDefEqProofs at B;simp -implicitDefEqProofs [J6,Qh,qt,c1,U,q1,q2,q3,q4,Ju,Y,Z,l5,l6,b1,b2,b3,b4,B]
theorem Qiz (st:Q1) (xs:List PV) (b:Int):Q41 st (.lst xs) (.int b)=if -(2 ^ 63)<=b/\b < 2 ^ 63/\xs.length * b.toNat<=lim then .ok (.lst (List.replicate b.toNat xs).flatten) st else .stuck:=rfl
theorem Qvs {α:Type} (x:α):∀ n,(List.replicate n [x]).flatten=List.replicate n x
 | 0=>rfl
 | n + 1=>by rw [List.replicate_succ,List.flatten_cons,Qvs x n]; rfl
theorem j4 (h:mr Γ S=.ok ps S1) (hl:ps.length<=1000000:=by decide):Kv mr Γ S=.ok (.lst ps) S1:=by
 unfold Kv;rw [h,Qs];exact bN hl
theorem Qku (Z:n<=8) (S:Q1):Xa [.int n] S=.ok (Q5 (List.replicate n (Xx n))) S:=by
 have G:((n:Int) + 1).toNat=n + 1:=by omega
 have U:X4 [some (.int 0),some (.int n)] S=.ok (Qt (Xx n)) S:=by
  have:Qt (Xx n)=.tup (List.replicate (n + 1) (.int 0)):=by simp [Qt,Xx]
  rw [this];have O:Q41 S (.lst [.int 0]) (.int ((n:Int) + 1))=.ok (.lst (List.replicate (n + 1) (.int 0))) S:=by
   rw [Qiz,bN ⟨by omega,by omega,by rw [Ju,G]; simp; omega⟩,G,Qvs]
  exact W9 (Q2 (Q6 (j4 rfl) (Q6 rfl rfl (Q2k S _ _)) O) rfl) rfl
 have I:Jf (Qg 0) Zg X4 [] (Zc [none,some 0] [some (.int n)]) (Zh 0 n) S=.ok ((List.range n).map fun _=>Qt (Xx n)) S:=by
  rw [Uw];refine Yf _ _ (by simp) fun j hj=>⟨_,rfl,?_⟩
  exact U
 have J:((List.range n).map fun _=>Qt (Xx n))=(List.replicate n (Xx n)).map Qt:=by
  rw [List.map_replicate];exact List.eq_replicate_iff.mpr ⟨by simp,fun b Y=>by obtain ⟨_,_,rfl⟩:=List.mem_map.mp Y; rfl⟩
 rw [J] at I;have B:Yj (Q0 (Q3 0) Q4) [some (.int n)] S=.ok (Zh 0 n,[]) S:=by
  rw [Ui,Q2 (m:=Q3 0) (p:=.int n) (S1:=S) rfl (show Q4 _ S=.ok [] S from rfl),Qs];show (if -(lim:Int)<=(n:Int)/\(n:Int)<=lim then _ else _)=_;rw [bN (by rw [Ju]; omega),Int.toNat_natCast]
 have ct:U5 S [.lst ((List.replicate n (Xx n)).map Qt)]=.ok (Q5 (List.replicate n (Xx n))) S:=by
  have hl:((List.replicate n (Xx n)).map Qt).length<=1000000:=by simp; omega
  unfold Q5;generalize (List.replicate n (Xx n)).map Qt=q at *;simp [Ju,hl]
 have step:x8 [some (.int n)] S=.rt (Q5 (List.replicate n (Xx n))) S:=Wj (W9 (Q2 (zz (Ub B I)) rfl) ct);exact (Zd step).trans (Q9k S _)
theorem Qda {a b:Tab} (h:a.length=b.length) (hl:a.length<=1000) (hr:∀ r∈a,r.length<=1000) (S:Q1):Vq [Q5 a,Q5 b] S=.ok (Q5 (Wk a b)) S:=by
 obtain ⟨a6,S',e,⟨U,Z,rfl⟩,rfl⟩:=Q8a (g:=fun z:List Int × List Int=>PV.tup [Qt z.1,Qt z.2]) (xs:=a.zip b)
  (fun pre Γ st=>(∃ U Z,Γ=[some (Q5 a),some (Q5 b),some (.ref S.length),U,Z])/\st=S ++ [.lst (pre.map fun z=>Qt (Wv z.1 z.2))])
  (ga:=Kh (Y5 (Qg 3) (Y5 (Qg 4) Ki))) (body:=Xq) (w:=[]) (fun _ _ _ _=>by simp)
  (fun pre z a4 Γ st hx ⟨⟨U,Z,a2⟩,B⟩=>by
   subst a2; subst B;have hz:z∈a.zip b:=by rw [hx]; simp
   have a5:pre.length<=1000:=by
    have:=congrArg List.length hx;rw [List.length_zip,O6,D7,<- h,Nat.min_self] at this;omega
   have J:z.1.length<=lim:=by have:=hr _ (List.of_mem_zip hz).1; rw [Ju]; omega
   obtain ⟨st,B⟩:∃ st,S ++ [Cell.lst (pre.map fun z=>Qt (Wv z.1 z.2))]=st:=⟨_,rfl⟩
   have gt:st[S.length]?=some (.lst (pre.map fun z=>Qt (Wv z.1 z.2))):=by rw [<- B]; simp
   rw [B];have hc:Jf (Kh (Y5 (Qg 0) (Y5 (Qg 1) Ki))) Zg Vs [] (Zc [none,none] [some (Q5 a),some (Q5 b),some (.ref S.length),some (Qt z.1),some (Qt z.2)]) ((z.1.zip z.2).map fun z=>.tup [.int z.1,.int z.2]) st=.ok ((z.1.zip z.2).map fun z=>.int (Lw.maxI z.1 z.2)) st:=by
    refine Yf _ _ (by simp) fun u hu=>⟨_,rfl,?_⟩
    simp [Zc,Vs,Lw.maxI]
   have Y:((z.1.zip z.2).map fun z=>PV.int (Lw.maxI z.1 z.2))=(Wv z.1 z.2).map .int:=by unfold Wv; rw [L5]; rfl
   rw [Y] at hc;have G:Q7i (Q0 (Q3 3) (Q0 (Q3 4) Q4)) [some (Q5 a),some (Q5 b),some (.ref S.length),some (Qt z.1),some (Qt z.2)] st=.ok ((z.1.zip z.2).map fun z=>.tup [.int z.1,.int z.2],[]) st:=by
    have I:=J;rw [Ju] at I;unfold Qt;simp [Q04,J,I,Ju]
   have O:((Wv z.1 z.2).map PV.int).length<=1000000:=by
    unfold Wv;rw [O2,O2,List.length_zip];have:=Nat.min_le_left z.1.length z.2.length;rw [Ju] at J;omega
   have ct:U5 st [.lst ((Wv z.1 z.2).map .int)]=.ok (Qt (Wv z.1 z.2)) st:=by
    unfold Qt;generalize (Wv z.1 z.2).map PV.int=q at *;simp [Ju,O]
   have ap:=Q10 gt (by rw [O2]; omega) (Qt (Wv z.1 z.2));refine ⟨_,rfl,_,_,Q3d (p:=.ref S.length) rfl (Xj gt) (Q2 (W9 (Q2 (zz (Ub G hc)) rfl) ct) rfl) ap,⟨_,_,rfl⟩,?_⟩;rw [<- B,F3];simp)
  (Γ:=[some (Q5 a),some (Q5 b),some (.ref S.length),none,none]) (st:=S ++ [.lst []]) ⟨⟨_,_,rfl⟩,rfl⟩
 have Y:((a.zip b).map fun z=>Qt (Wv z.1 z.2))=(Wk a b).map Qt:=by unfold Wk; rw [L5]; rfl
 rw [Y] at e;have O:((Wk a b).map Qt).length<=1000000:=by
  unfold Wk;rw [O2,O2,List.length_zip,<- h,Nat.min_self];omega
 obtain ⟨st,B⟩:∃ st,S ++ [Cell.lst ((Wk a b).map Qt)]=st:=⟨_,rfl⟩;have gt:ListAt st (.ref S.length) ((Wk a b).map Qt):=.inr (.inr ⟨_,rfl,by rw [<- B]; simp⟩);have G:Q7i (Q0 (Q3 0) (Q0 (Q3 1) Q4)) [some (Q5 a),some (Q5 b),some (.ref S.length),none,none] (S ++ [.lst []])=.ok ((a.zip b).map fun z=>.tup [Qt z.1,Qt z.2],[]) (S ++ [.lst []]):=by
  have a3:a.length<=1000000:=by omega
  unfold Q5;simp [Q04,a3,Ju]
 have ct:U5 st [.ref S.length]=.ok (Q5 (Wk a b)) st:=by
  have z:st[S.length]?=some (.lst ((Wk a b).map Qt)):=by rw [<- B]; simp
  show (match Xb st (.ref S.length) with | some xs=>Res.ok (PV.tup xs) st | none=>.stuck)=_
  rw [show Xb st (.ref S.length)=some ((Wk a b).map Qt) from Xj z]; rfl
 rw [B] at e;have step:qw [some (Q5 a),some (Q5 b),none,none,none] S=.rt (Q5 (Wk a b)) st:=
  Qa (Γ1:=[some (Q5 a),some (Q5 b),some (.ref S.length),none,none]) (S1:=S ++ [.lst []]) (Qq (qa (ps:=[]) rfl)) (Qa (Q1t G e) (Wj (W9 (Q2 rfl rfl) ct)))
 refine (Zd step).trans ?_;rw [<- B];exact Q8d (by simp [Zq,Q5,Qt])
def bM (t:Nat):Int:=10 ^ (21 + t)
theorem Q2j (t:Nat):bM (t + 1)=10 * bM t:=by
 unfold bM;rw [show 21 + (t + 1)=(21 + t) + 1 by omega,Int.pow_succ];omega
theorem Q6r:∀ t,1000000000000000000000<=bM t
 | 0=>by decide
 | t + 1=>by have:=Q6r t; rw [Q2j]; omega
theorem Qr1 {t:Nat} (h:t<=60):8 * bM t + 2 < 10 ^ 100:=by
 have h1:bM t<=10 ^ 90:=by
  unfold bM
  exact_mod_cast Nat.pow_le_pow_right (n:=10) (by decide) (show 21 + t<=90 by omega)
 have h2:(8:Int) * 10 ^ 90 + 2 < 10 ^ 100:=by decide +kernel
 omega
structure Bd (n:Nat) (M:Int) (tb:Tab):Prop where
 le:∀ i j,i < n->j<=n->ent tb i j<=M
theorem Qm5 {f:Nat->Int} (h:∀ o,o < n->f o<=M):W4 n f<=n * M:=by
 induction n with
 | zero=>simp [W4]
 | succ n q=>
  rw [Jh];have h1:=q fun o B=>h o (by omega)
  have h2:=h n (by omega);have:((n + 1:Nat):Int) * M=n * M + M:=by push_cast; rw [Int.add_mul,Int.one_mul]
  omega
theorem Qm4 {f:Nat->Int} (h:∀ o,o < n->0<=f o):0<=W4 n f:=by
 induction n with
 | zero=>simp [W4]
 | succ n q=>
  rw [Jh];have h1:=q fun o B=>h o (by omega)
  have h2:=h n (by omega);omega
theorem Qh8 {f:Nat->Int} (h:∀ o,o < n->0<=f o) {k:Nat} (I:k < n):f k<=W4 n f:=by
 induction n with
 | zero=>omega
 | succ n G=>
  rw [Jh];have h2:=h n (by omega);have J:=Qm4 (n:=n) fun o B=>h o (by omega)
  by_cases q:k=n
  ·subst q; omega
  ·have h1:=G (fun o B=>h o (by omega)) (by omega)
   omega
theorem Q2r {h:Nat} {tb:Tab} (w:Wt' n tb) (b:Bd n M tb) (G:0<=M) (q:h < n):Qi tb h<=8 * M:=by
 rw [qk w.sz q];have h1:=Qm5 (n:=n) (f:=fun o=>ent tb o h) fun o B=>b.le o h B (E8 q)
 have h2:=Qh8 (n:=n) (f:=fun j=>ent tb h j) (fun o B=>w.ent_nn q (E8 B)) q
 have J:=w.ent_nn q (O8 n);have I:(n:Int) * M<=8 * M:=Int.mul_le_mul_of_nonneg_right (by have:=w.n8; omega) G;have h2:ent tb h h<=W4 n fun j=>ent tb h j:=h2
 omega
theorem Bd.put {tb:Tab} (w:Wt' n tb) (b:Bd n M tb) {d:Dd} (o:d.ok n) {K:Int} (B:M + d.k<=K):Bd n K (d.put n tb):=by
 refine ⟨fun i j hi q=>?_⟩;unfold Dd.put;rw [xm w.sz (Dd.ok_h o) (Dd.ok_pl o)];have h1:=b.le i j hi q;have h2:=Dd.ok_k o;have G:=b.le d.h (d.pl n) (Dd.ok_h o) (Dd.ok_pl o)
 split <;> omega
theorem Bd.up {tb:Tab} {K:Int} (b:Bd n M tb) (h:M<=K):Bd n K tb:=⟨fun i j hi q=>Int.le_trans (b.le i j hi q) h⟩
theorem Quc {tb:Tab} (w:Wt' n tb) (c:Ca n tb) {d:Dd} (o:d.ok n) (J:d.isM=false->d.k<=Qi tb d.h):Wt' n (d.put n tb)/\Ca n (d.put n tb):=by
 have G:=Dd.ok_h o;have B:=Dd.ok_k o;have I:Wt' n (d.put n tb):=Qi5 w o;refine ⟨I,?_⟩;cases d with
 | mk h k=>exact Ca.make w c G (by have:(1:Int)<=k:=B; omega) I
 | ld h q k=>
  have h1:k<=Qi tb h:=J rfl;have B:(1:Int)<=k:=B;exact Ca.give w c G (E8 o.2.1) o.2.2.1 (by omega) h1 (Int.le_trans B h1) I
 | us h k=>
  have h1:k<=Qi tb h:=J rfl;have B:(1:Int)<=k:=B;have G:h < n:=G;exact Ca.give w c G (O8 n) (by omega) (by omega) h1 (Int.le_trans B h1) I
theorem Qbu (T:Tp S L):∃ (k:Int) (S':Q1),(1<=k/\k<=100000000000000000000)/\Tp S' L/\Mv L S S'/\Wb [.ref L] S=.ok (.int k) S':=by
 obtain ⟨d,S1,hd,B,M1,e1⟩:=Y4 T 12 (by decide) (by decide);have e1:Q8 [.ref L,.int 12] S=.ok (.int d) S1:=e1
 by_cases q:d=11
 ·obtain ⟨x,S2,I,G,M2,e2⟩:=Y4 B 3 (by decide) (by decide);have e2:Q8 [.ref L,.int 3] S1=.ok (.int x) S2:=e2;have M:=M1.trans M2;have hp:Q40 S1 (.int 10) (.int 20)=.ok (.int 100000000000000000000) S1:=by
   rw [Qiy,bN (by decide)]; rfl
  have step:Kn [some (.ref L),none] S=.rt (.int (100000000000000000000 - (x:Int))) S2:=
   Qa (Γ1:=[some (.ref L),some (.int d)]) (Qq (Qd (n:=2) (Q2 rfl (Q2 rfl rfl)) rfl e1)) (qb (Xm (Qp (Q6 rfl rfl (Q3i S1 (by omega)))) (Wj (Q6 (Q6 rfl rfl hp) (Qd (n:=2) (Q2 rfl (Q2 rfl rfl)) rfl e2) (Qrn S2 _ _)))))
  exact ⟨_,S2,by omega,G,M,(Zd step).trans (Qd0 M.len _)⟩
 ·have b:=Q4m (d:Int) (b:=7) (by decide);have step:Kn [some (.ref L),none] S=.rt (.int (1 + (d:Int) % 7)) S1:=
   Qa (Γ1:=[some (.ref L),some (.int d)]) (Qq (Qd (n:=2) (Q2 rfl (Q2 rfl rfl)) rfl e1)) (Qa (Yu (Qp (Q6 rfl rfl (Q6k S1 (by omega)))) rfl) (Wj (Q6 rfl (Q6 rfl rfl (Qtg S1 (by decide))) (Q2k S1 _ _))))
  exact ⟨_,S1,by omega,B,M1,(Zd step).trans (Qd0 M1.len _)⟩
theorem Qdw {i y:Nat} (hi:i < n) (B:y < n - 1):∃ q:Nat,((i:Int) + 1 + (y:Int)) % (n:Int)=(q:Int)/\q < n/\q≠i:=by
 by_cases h:i + 1 + y < n
 ·exact ⟨i + 1 + y,by rw [Int.emod_eq_of_lt (by omega) (by omega)]; omega,h,by omega⟩
 ·refine ⟨i + 1 + y - n,?_,by omega,by omega⟩;have e:((i:Int) + 1 + (y:Int))=((i + 1 + y - n:Nat):Int) + (n:Int):=by omega
  rw [e,Int.add_emod_right,Int.emod_eq_of_lt (by omega) (by omega)]
abbrev tbG (L n m:Nat) (tb:Tab) (c4 c5 c6 c7 c8:Option PV):Gam:=[some (.ref L),some (.int n),some (.int m),some (Q5 tb),c4,c5,c6,c7,c8]
structure TbI (n:Nat) (t:Nat) (tb:Tab):Prop where
 w:Wt' n tb
 c:Ca n tb
 b:Bd n (bM t) tb
theorem TbI.put {t:Nat} {tb:Tab} (I:TbI n t tb) {d:Dd} (o:d.ok n) (q:d.isM=false->d.k<=Qi tb d.h) (G:d.isM=true->d.k<=100000000000000000000):TbI n (t + 1) (d.put n tb):=by
 have h:=Quc I.w I.c o q;refine ⟨h.1,h.2,I.b.put I.w o ?_⟩;have g:=Q6r t;rw [Q2j];cases B:d.isM with
 | true=>have:=G B; omega
 | false=>
  have h1:=q B;have h2:=Q2r I.w I.b (by omega) (Dd.ok_h o);omega
theorem Qbs {m t:Nat} {tb:Tab} (T:Tp S L) (I:TbI n t tb) (ht:t<=20) (B c5 c6 Y G:Option PV):∃ (a4:Tab) (S':Q1) (d5 d6 d7 d8:Option PV),TbI n (t + 1) a4/\Tp S' L/\Mv L S S'/\Uc (tbG L n m tb B c5 c6 Y G) S=.nx (tbG L n m a4 B d5 d6 d7 d8) S':=by
 have w:=I.w;have h1:=w.n1;have h8:=w.n8;obtain ⟨i,S1,hi,T1,M1,e1⟩:=Y4 T n h1 (by omega);obtain ⟨y,S2,hy,T2,M2,e2⟩:=Y4 T1 4 (by decide) (by decide);have e2:Q8 [.ref L,.int 4] S1=.ok (.int y) S2:=e2;have e3:=xy w.sz (by omega) hi S2;obtain ⟨r,hr⟩:∃ r:Nat,Qi tb i=(r:Int):=⟨(Qi tb i).toNat,by have:=I.c.nn i hi; omega⟩;rw [hr] at e3;have U:=M1.trans M2;have k1:Qz 5 (Qc 2 Q8 (Q0 (Q3 0) (Q0 (Q3 1) Q4))) (tbG L n m tb B c5 c6 Y G) S=.nx (tbG L n m tb B (some (.int i)) c6 Y G) S1:=Qq (Qd (n:=2) (Q2 rfl (Q2 rfl rfl)) rfl e1);have k2:Qz 6 (Qc 2 Q8 (Q0 (Q3 0) (Q0 (mC (.int 4)) Q4))) (tbG L n m tb B (some (.int i)) c6 Y G) S1=.nx (tbG L n m tb B (some (.int i)) (some (.int y)) Y G) S2:=Qq (Qd (n:=2) (Q2 rfl (Q2 rfl rfl)) rfl e2);have k3:Qz 7 (Qc 2 J0 (Q0 (Q3 3) (Q0 (Q3 5) Q4))) (tbG L n m tb B (some (.int i)) (some (.int y)) Y G) S2=.nx (tbG L n m tb B (some (.int i)) (some (.int y)) (some (.int r)) G) S2:=Qq (Qd (n:=2) (Q2 rfl (Q2 rfl rfl)) rfl e3)
 have a6:=Q2r w I.b (by have:=Q6r t; omega) hi;have a7:=Qr1 (t:=t) (by omega);have a2:r < 2 ^ 8000:=Q9u (by
  have:(r:Int) < 10 ^ 100:=by omega
  exact_mod_cast this)
 by_cases q:y < 2\/r=0
 ·obtain ⟨k,O,hk,T3,M3,e4⟩:=Qbu T2;have o:(Dd.mk i k).ok n:=⟨hi,hk.1⟩;have Z:=j7 w.sz (by omega) hi (E8 hi) k O;refine ⟨_,O,_,_,_,_,I.put o (fun z=>by cases z) (fun _=>hk.2),T3,U.trans M3,Qa k1 (Qa k2 (Qa k3 (Xm ?_ (Qq (Qd (n:=4) (Q2 rfl (Q2 rfl (Q2 rfl (Q2 (Qd (n:=1) (Q2 rfl rfl) rfl e4) rfl)))) rfl Z)))))⟩
  by_cases q1:y < 2
  ·exact Qwc (Qp (Q6 rfl rfl (Q63 S2 (by omega))))
  ·exact Qnt (Qp (Q6 rfl rfl (Q84 S2 (by omega)))) (Qp (Q6 rfl rfl (Q3i S2 (by omega))))
 ·have a3:1<=r:=by omega
  have t1:Q3q (toB (mOp oLt (Q3 6) (mC (.int 2)))) (toB (mOp oEq (Q3 7) (mC (.int 0)))) (tbG L n m tb B (some (.int i)) (some (.int y)) (some (.int r)) G) S2=.ok false S2:=Qnt (Qp (Q6 rfl rfl (Q84 S2 (by omega)))) (Qp (Q6 rfl rfl (Q6k S2 (by omega))))
  by_cases q2:y=2/\1 < n
  ·obtain ⟨z,O,hz,T3,M3,e4⟩:=Y4 T2 (n - 1) (by omega) (by omega);have e4:Q8 [.ref L,.int ((n:Int) - 1)] S2=.ok (.int z) O:=by rw [show ((n:Int) - 1)=((n - 1:Nat):Int) by omega]; exact e4
   obtain ⟨j,ej,hj,a5⟩:=Qdw hi hz;obtain ⟨x,J,hx,T4,M4,Z⟩:=zu T3 r a3 a2;have o:(Dd.ld i j (1 + (x:Int))).ok n:=⟨hi,hj,a5,by omega⟩;have e6:=j7 w.sz (by omega) hi (E8 hj) (1 + (x:Int)) J;refine ⟨_,J,_,_,_,_,I.put o (fun _=>?_) (fun z=>by cases z),T4,(U.trans M3).trans M4,Qa k1 (Qa k2 (Qa k3 (Yu t1 (Xm (Q6t (Qp (Q6 rfl rfl (Q3i S2 (by omega)))) (Qp (Q6 rfl rfl (Qqw S2 (by omega))))) (Qa (Γ1:=tbG L n m tb B (some (.int i)) (some (.int y)) (some (.int r)) (some (.int j))) (S1:=O) (Qq (Q6 (Q6 (Q6 rfl rfl (Q2k S2 _ _)) (Qd (n:=2) (Q2 rfl (Q2 (Q6 rfl rfl (Qrn S2 _ _)) rfl)) rfl e4) (Q2k O _ _)) rfl ?_)) (Qq (Qd (n:=4) (Q2 rfl (Q2 rfl (Q2 rfl (Q2 (Q6 rfl (Qd (n:=2) (Q2 rfl (Q2 rfl rfl)) rfl Z) (Q2k J _ _)) rfl)))) rfl e6)))))))⟩
   ·show 1 + (x:Int)<=Qi tb i;rw [hr]; omega
   ·rw [Qtg O (by omega),ej]
  ·obtain ⟨x,J,hx,T4,M4,Z⟩:=zu T2 r a3 a2;have o:(Dd.us i (1 + (x:Int))).ok n:=⟨hi,by omega⟩;have e6:=j7 w.sz (by omega) hi (O8 n) (1 + (x:Int)) J;have t2:xz (toB (mOp oEq (Q3 6) (mC (.int 2)))) (toB (mOp (oI fun a b=>.bl (decide (b < a))) (Q3 1) (mC (.int 1)))) (tbG L n m tb B (some (.int i)) (some (.int y)) (some (.int r)) G) S2=.ok false S2:=by
    by_cases q3:y=2
    ·exact Q6t (Qp (Q6 rfl rfl (Q3i S2 (by omega)))) (Qp (Q6 rfl rfl (Qqx S2 (by omega))))
    ·exact Qks (Qp (Q6 rfl rfl (Q6k S2 (by omega))))
   refine ⟨_,J,_,_,_,_,I.put o (fun _=>?_) (fun z=>by cases z),T4,U.trans M4,Qa k1 (Qa k2 (Qa k3 (Yu t1 (Yu t2 (Qq (Qd (n:=4) (Q2 rfl (Q2 rfl (Q2 rfl (Q2 (Q6 rfl (Qd (n:=2) (Q2 rfl (Q2 rfl rfl)) rfl Z) (Q2k J _ _)) rfl)))) rfl e6))))))⟩;show 1 + (x:Int)<=Qi tb i;rw [hr]; omega
theorem Qju {i:Nat} (hi:i < n) (q:j<=n):ent (List.replicate n (Xx n)) i j=0:=by
 unfold ent;rw [F9 (l:=List.replicate n (Xx n)),List.getElem?_replicate,bN hi,Option.getD_some,Xx,F9,List.getElem?_replicate,bN (by omega)]; rfl
theorem Qgw {m:Nat} (T:Tp S L) (h1:1<=n) (O:n<=8) (hm:m<=9):∃ (tb:Tab) (S':Q1),TbI n m tb/\Tp S' L/\Mv L S S'/\Wy [.ref L,.int n,.int m] S=.ok (Q5 tb) S':=by
 have w0:=Qkw h1 O;have I0:TbI n 0 (List.replicate n (Xx n)):=⟨w0,Ca.zero h1 O w0,⟨fun i j hi hj=>by rw [Qju hi hj]; have:=Q6r 0; omega⟩⟩;obtain ⟨a3,S',e,tb,Y,B,q,J,G,rfl,I,T',M⟩:=Q0m (g:=fun k:Nat=>PV.int (k:Int)) (xs:=List.range m) (ga:=Qg 4) (body:=Uc) (w:=[]) (Γ:=tbG L n m (List.replicate n (Xx n)) none none none none none) (st:=S)
  (fun t Γ st=>∃ tb Y B q J G,Γ=tbG L n m tb Y B q J G/\TbI n t tb/\Tp st L/\Mv L S st) (fun _ _ _ _=>by simp)
  (fun t x Γ st hx ⟨tb,Y,B,q,J,G,Z,I,T,M⟩=>by
   subst Z;have a2:t < m:=by simpa using (O0.mp hx).1
   obtain ⟨a4,S',d5,d6,d7,d8,I',T',M',e⟩:=Qbs (m:=m) T I (by omega) (some (.int x)) B q J G;exact ⟨_,rfl,_,_,e,_,_,_,_,_,_,rfl,I',T',M.trans M'⟩)
  ⟨_,_,_,_,_,_,rfl,I0,T,Mv.refl L S⟩
 rw [G9] at I;rw [<- Uw] at e;have U:Yj (Q0 (Q3 2) Q4) (tbG L n m (List.replicate n (Xx n)) none none none none none) S=.ok (Zh 0 m,[]) S:=by
  rw [Ui,Q2 (m:=Q3 2) (p:=.int m) (S1:=S) rfl (show Q4 _ S=.ok [] S from rfl),Qs];show (if -(lim:Int)<=(m:Int)/\(m:Int)<=lim then _ else _)=_;rw [bN (by rw [Ju]; omega),Int.toNat_natCast]
 have step:jv [some (.ref L),some (.int n),some (.int m),none,none,none,none,none,none] S=.rt (Q5 tb) S':=
  Qa (Γ1:=tbG L n m (List.replicate n (Xx n)) none none none none none) (Qq (Qd (n:=1) (Q2 rfl rfl) rfl (Qku O S))) (Qa (Q1t U e) rfl)
 exact ⟨tb,S',I,T',M,(Zd step).trans (Q3b M.len (by simp [Zq,Q5,Qt]))⟩
theorem Qh0 (ns:List Int):∃ (n:Nat) (tb:Tab),(1<=n/\n<=8)/\TbI n 8 tb/\Ua [.fro (ns.map .int)] []=.ok (Q5 tb) []:=by
 obtain ⟨c,q⟩:=Q6s ns 0 [];have q:Zv [.fro (ns.map .int),.int 0] []=.ok (.ref 0) [.lst [.int c]]:=q;have G:Tp [.lst [.int c]] 0:=⟨c,rfl⟩;obtain ⟨a,S1,ha,O,M1,e1⟩:=Y4 G 8 (by decide) (by decide);have e1:Q8 [.ref 0,.int 8] [.lst [.int c]]=.ok (.int a) S1:=e1;obtain ⟨m,S2,hm,J,M2,e2⟩:=Y4 O 9 (by decide) (by decide);have e2:Q8 [.ref 0,.int 9] S1=.ok (.int m) S2:=e2;obtain ⟨tb,B,I,Y,U,e3⟩:=Qgw (n:=1 + a) (m:=m) J (by omega) (by omega) (by omega);have e3:Wy [.ref 0,.int (1 + (a:Int)),.int m] S2=.ok (Q5 tb) B:=by rw [show (1 + (a:Int))=((1 + a:Nat):Int) by omega]; exact e3
 have up:∀ t k,bM t<=bM (t + k):=fun t k=>by
  induction k with
  | zero=>exact Int.le_refl _
  | succ k Z=>have:=Q2j (t + k); have:=Q6r (t + k); rw [show t + (k + 1)=t + k + 1 by omega]; omega
 refine ⟨1 + a,tb,by omega,⟨I.w,I.c,I.b.up ?_⟩,?_⟩
 ·have:=up m (8 - m); rwa [show m + (8 - m)=8 by omega] at this
 have step:jz [some (.fro (ns.map .int)),none,none] []=.rt (Q5 tb) B:=
  Qa (Γ1:=[some (.fro (ns.map .int)),some (.ref 0),none]) (Qq (Qd (n:=2) (Q2 rfl (Q2 rfl rfl)) rfl q)) (Qa (Γ1:=[some (.fro (ns.map .int)),some (.ref 0),some (.int (1 + (a:Int)))]) (Qq (Q6 rfl (Qd (n:=2) (Q2 rfl (Q2 rfl rfl)) rfl e1) (Q2k S1 _ _))) (Wj (Qd (n:=3) (Q2 rfl (Q2 rfl (Q2 (Qd (n:=2) (Q2 rfl (Q2 rfl rfl)) rfl e2) rfl))) rfl e3)))
 refine (Zd step).trans ?_;exact Q8d (st:=[]) (more:=B) (by simp [Zq,Q5,Qt])
def stD:List (Key × PV):=[(.inr "now",.ref 0),(.inr "last",.ref 1),(.inr "letters",.ref 2)]
structure LS (s:RS) (S:Q1):Prop where
 now:S[0]?=some (.lst (s.now.map Q5))
 last:S[1]?=some (.lst (s.last.map Q5))
 le:S[2]?=some (.lst (s.le.map Q5))
 st:S[3]?=some (.dic stD)
theorem LS.of (h:LS s S) (e:∀ t,t < 4->S'[t]?=S[t]?):LS s S':=
 ⟨by rw [e 0 (by decide)]; exact h.now,by rw [e 1 (by decide)]; exact h.last,by rw [e 2 (by decide)]; exact h.le,by rw [e 3 (by decide)]; exact h.st⟩
theorem LS.mv (h:LS s S) (M:Mv L S S') (q:4<=L):LS s S':=h.of fun t B=>M.keep t (by omega)
theorem Qcn:¬ ((.inr (Str.ofString "now"):Key)=.inr (Str.ofString "last")):=by decide +kernel
theorem Qfp:¬ ((.inr (Str.ofString "now"):Key)=.inr (Str.ofString "letters")):=by decide +kernel
theorem Qcp:¬ ((.inr (Str.ofString "last"):Key)=.inr (Str.ofString "letters")):=by decide +kernel
theorem Qv5:Q11 stD (.inr "now")=some (.ref 0):=by simp [Q11,stD]
theorem Qr6:Q11 stD (.inr "last")=some (.ref 1):=by
 unfold Q11 stD;rw [List.find?_cons_of_neg (by simpa using Qcn)];simp
theorem Qv6:Q11 stD (.inr "letters")=some (.ref 2):=by
 unfold Q11 stD;rw [List.find?_cons_of_neg (by simpa using Qfp),List.find?_cons_of_neg (by simpa using Qcp)];simp
theorem Qjz {i:Nat} {kvs:List (Key × PV)} (h:S[i]?=some (.dic kvs)) {x:Str} (e:Q11 kvs (.inr x)=some v):Q3j S (.ref i) (.str x)=.ok v S:=by
 have h1:Q8e S (.ref i)=some kvs:=by unfold Q8e; simp only [h]
 unfold Q3j;rw [h1];show (match Q11 kvs (.inr x) with | some v=>Res.ok v S | none=>.stuck)=_
 rw [e]
variable {s:RS}
theorem LS.gn (h:LS s S):Q3j S (.ref 3) (.str "now")=.ok (.ref 0) S:=Qjz h.st Qv5
theorem LS.gl (h:LS s S):Q3j S (.ref 3) (.str "last")=.ok (.ref 1) S:=Qjz h.st Qr6
theorem LS.ge (h:LS s S):Q3j S (.ref 3) (.str "letters")=.ok (.ref 2) S:=Qjz h.st Qv6
theorem Q1a {k i:Nat} {xs:List Tab} (h:S[k]?=some (.lst (xs.map Q5))) (hi:i < xs.length):oIx S (.ref k) (.int i)=.ok (Q5 (xs.getD i [])) S:=by
 have q:ListAt S (.ref k) (xs.map Q5):=.inr (.inr ⟨k,rfl,h⟩);rw [q.ix,Xw,Sm.atI_get (getD_some hi [])]; rfl
theorem Q47 {k i:Nat} {xs:List Tab} (h:S[k]?=some (.lst (xs.map Q5))) (hi:i < xs.length) (t:Tab):Q05 S (.ref k) (.int i) (Q5 t)=some (S.set k (.lst ((xs.set i t).map Q5))):=by
 have e:ixN (xs.map Q5).length (i:Int)=some i:=by
  rw [O2];unfold ixN;rw [bN (by omega),bN (by omega)]; simp
 unfold Q05;simp only [h,e];rw [List.map_set]; rfl
theorem Qkq (h:LS s S) (r:RI n s) {x:Dx} (o:x.ok n s) (hl:s.le.length < 100000):∃ S',X9 [.ref 3,x.V] S=.ok (Q46 s x) S'/\LS (Zs n s x) S'/\S'.length=S.length/\∀ t,3<=t->S'[t]?=S[t]?:=by
 have b0:=(O0.mp h.now).1;have b1:=(O0.mp h.last).1;have b2:=(O0.mp h.le).1;have I:∀ xs:List Tab,LS ⟨xs,s.last,s.le⟩ (S.set 0 (.lst (xs.map Q5))):=fun xs=>⟨E3 b0,by rw [O7 (by decide)]; exact h.last,by rw [O7 (by decide)]; exact h.le,by rw [O7 (by decide)]; exact h.st⟩
 have ext:∀ (k:Nat) (c:Cell),k < 3->∀ t,3<=t->(S.set k c)[t]?=S[t]?:=fun k c hk t ht=>O7 (by omega)
 have fg:∀ (k:Nat) (c:Cell),fin S (.str "done") (S.set k c)=.ok (.str "done") (S.set k c):=fun k c=>Q3b D9 rfl
 cases x with
 | own d=>
  have U:=Dd.ok_h o;have hi:d.h < s.now.length:=by rw [r.ln]; exact U
  have w:=r.wn d.h U;have h8:=w.n8;have ix:=Q1a h.now hi;have er:=xy w.sz (by omega) U S;have en:Zt S [.ref 0]=.ok (.int n) S:=by
   have hV:ListAt S (.ref 0) (s.now.map Q5):=.inr (.inr ⟨0,rfl,h.now⟩);rw [hV.len,O2,r.ln]
  have ea:=j7 w.sz (by omega) U (Dd.ok_pl o) d.k S;have es:=Q47 h.now hi (d.put n (s.now.getD d.h []));have O:∀ (G:Str) (pl:PV),oIx S d.V (.int 0)=.ok (.str G) S->¬ G = "keep" -> ¬ G = "fall" -> ¬ G = "send" -> ¬ G = "come" -> (G = "make" <-> d.isM=true)->oIx S d.V (.int 2)=.ok pl S->Q3f "make" "use" "lend" (.int d.h) (.int n) pl S (.str G)=.ok (.int (d.pl n)) S ->
    W7 [some (.ref 3),some d.V,none,none,none,none] S=(if d.fits (s.now.getD d.h [])=true then .rt (.str "done") (S.set 0 (.lst ((s.now.set d.h (d.put n (s.now.getD d.h []))).map Q5))) else .rt (.int (Qi (s.now.getD d.h []) d.h)) S):=by
   intro G pl a0 k1 k2 k3 k4 km a2 pk;refine Qa (Γ1:=[some (.ref 3),some d.V,some (.ref 0),none,none,none]) (Qq (zn rfl rfl h.gn)) ?_;have J:∀ a4 Z:Option PV,∀ u:Str,¬ G=u->toB (mOp oEq (mOp oIx (Q3 1) (mC (.int 0))) (mC (.str u))) [some (.ref 3),some d.V,some (.ref 0),none,a4,Z] S=.ok false S:=fun a4 Z u hu=>Qp (Q6 (Q6 rfl rfl a0) rfl (Um S hu))
   have c1:Qz 3 (mOp oIx (Q3 1) (mC (.int 1))) [some (.ref 3),some d.V,some (.ref 0),none,none,none] S=.nx [some (.ref 3),some d.V,some (.ref 0),some (.int d.h),none,none] S:=Qq (Q6 rfl rfl (Dd.a1 d S));have c2:Qz 4 (Qc 2 J0 (Q0 (mOp oIx (Q3 2) (Q3 3)) (Q0 (Q3 3) Q4))) [some (.ref 3),some d.V,some (.ref 0),some (.int d.h),none,none] S=.nx [some (.ref 3),some d.V,some (.ref 0),some (.int d.h),some (.int (Qi (s.now.getD d.h []) d.h)),none] S:=Qq (Qd (n:=2) (Q2 (Q6 rfl rfl ix) (Q2 rfl rfl)) rfl er);have al:mOp oIx (Q3 1) (xg (mC (.int 1))) [some (.ref 3),some d.V,some (.ref 0),some (.int d.h),some (.int (Qi (s.now.getD d.h []) d.h)),none] S=.ok (.int d.k) S:=Q6 rfl rfl (Dd.al d S);have cond:xz (toB (mOp oNe (mOp oIx (Q3 1) (mC (.int 0))) (mC (.str "make")))) (toB (mOp oLt (Q3 4) (mOp oIx (Q3 1) (xg (mC (.int 1)))))) [some (.ref 3),some d.V,some (.ref 0),some (.int d.h),some (.int (Qi (s.now.getD d.h []) d.h)),none] S=.ok (!d.fits (s.now.getD d.h [])) S:=by
    unfold Dd.fits;cases Y:d.isM with
    | true=>
     have hw:=km.mpr Y;rw [Bool.true_or,Bool.not_true];exact Qks (Qp (Q6 (Q6 rfl rfl a0) rfl (show oNe S (.str G) (.str "make")=.ok (.bl false) S by rw [hw]; simp)))
    | false=>
     have hw:¬ G = "make" := fun z=>by rw [km.mp z] at Y; cases Y
     refine (Q6t (Qp (Q6 (Q6 rfl rfl a0) rfl (show oNe S (.str G) (.str "make")=.ok (.bl true) S by simp [hw]))) ?_)
     by_cases q:d.k<=Qi (s.now.getD d.h []) d.h
     ·rw [bQ q];exact Qp (Q6 rfl al (Q84 S (by omega)))
     ·rw [bP q];exact Qp (Q6 rfl al (Q63 S (by omega)))
   by_cases q:d.fits (s.now.getD d.h [])=true
   ·rw [bN q];rw [q] at cond;have c3:Qz 5 (Qb2 "make" "use" "lend" (Q3 3) (Qw Zt (Q0 (Q3 2) Q4)) (mOp oIx (Q3 1) (mC (.int 2))) (mOp oIx (Q3 1) (mC (.int 0)))) [some (.ref 3),some d.V,some (.ref 0),some (.int d.h),some (.int (Qi (s.now.getD d.h []) d.h)),none] S=.nx [some (.ref 3),some d.V,some (.ref 0),some (.int d.h),some (.int (Qi (s.now.getD d.h []) d.h)),some (.int (d.pl n))] S:=by
     refine Qq ?_;rw [Qj5,show Q3 3 [some (PV.ref 3),some d.V,some (.ref 0),some (.int d.h),some (.int (Qi (s.now.getD d.h []) d.h)),none] S=.ok (.int d.h) S from rfl,Qs,W9 (Q2 (m:=Q3 2) (p:=.ref 0) rfl rfl) en,Qs,Q6 rfl rfl a2,Qs,Q6 rfl rfl a0,Qs,pk]
    have c4:x9 (Q3 2) (Q3 3) (Qc 4 J6 (Q0 (mOp oIx (Q3 2) (Q3 3)) (Q0 (Q3 3) (Q0 (Q3 5) (Q0 (mOp oIx (Q3 1) (xg (mC (.int 1)))) Q4))))) [some (.ref 3),some d.V,some (.ref 0),some (.int d.h),some (.int (Qi (s.now.getD d.h []) d.h)),some (.int (d.pl n))] S=.nx [some (.ref 3),some d.V,some (.ref 0),some (.int d.h),some (.int (Qi (s.now.getD d.h []) d.h)),some (.int (d.pl n))] (S.set 0 (.lst ((s.now.set d.h (d.put n (s.now.getD d.h []))).map Q5))):=
     Q50 (Qd (n:=4) (Q2 (Q6 rfl rfl ix) (Q2 rfl (Q2 rfl (Q2 (Q6 rfl rfl (Dd.al d S)) rfl)))) rfl ea) rfl rfl es
    exact Qa (Yu (J none none _ k1) (Yu (J none none _ k2) (Yu (J none none _ k3) (Yu (J none none _ k4) (Qa c1 (Qa c2 (Qa (Yu cond rfl) (Qa c3 c4)))))))) rfl
   ·rw [bO q];rw [Bool.not_eq_true] at q;rw [q] at cond;exact qb (Yu (J none none _ k1) (Yu (J none none _ k2) (Yu (J none none _ k3) (Yu (J none none _ k4) (Qa c1 (Qa c2 (qb (Xm cond rfl))))))))
  have B:W7 [some (.ref 3),some d.V,none,none,none,none] S=(if d.fits (s.now.getD d.h [])=true then .rt (.str "done") (S.set 0 (.lst ((s.now.set d.h (d.put n (s.now.getD d.h []))).map Q5))) else .rt (.int (Qi (s.now.getD d.h []) d.h)) S):=by
   cases d with
   | mk U k=>exact O "make" (.int k) rfl Jj Jk Ji Jm ⟨fun _=>rfl,fun _=>rfl⟩ rfl (by rw [Q2t,bN rfl]; rfl)
   | ld U q k=>exact O "lend" (.int q) rfl Jp Jq Jn Jr ⟨fun z=>absurd z J2,fun z=>by cases z⟩ rfl (by rw [Q2t,bO J2,bO Zp,bN rfl]; rfl)
   | us U k=>exact O "use" (.int k) rfl Zk Zm Zi Zn ⟨fun z=>absurd z Js,fun z=>by cases z⟩ rfl (by rw [Q2t,bO Js,bN rfl]; rfl)
  by_cases q:d.fits (s.now.getD d.h [])=true
  ·rw [bN q] at B;have z1:Q46 s (.own d)=.str "done" := bN q;have z2:Zs n s (.own d)=⟨s.now.set d.h (d.put n (s.now.getD d.h [])),s.last,s.le⟩:=bN q;rw [z1,z2];exact ⟨_,(Zd B).trans (fg _ _),I _,D9,ext 0 _ (by decide)⟩
  ·rw [bO q] at B;have z1:Q46 s (.own d)=.int (Qi (s.now.getD d.h []) d.h):=bO q;have z2:Zs n s (.own d)=s:=bO q;rw [z1,z2];exact ⟨S,(Zd B).trans (Qed S _),h,rfl,fun _ _=>rfl⟩
 | kp i=>
  have hi:i < n:=o;have k:W7 [some (.ref 3),some (Dx.kp i).V,none,none,none,none] S=.rt (.str "done") (S.set 1 (.lst ((s.last.set i (s.now.getD i [])).map Q5))):=
   Qa (Γ1:=[some (.ref 3),some (Dx.kp i).V,some (.ref 0),none,none,none]) (Qq (zn rfl rfl h.gn)) (Qa (Xm (Qp (Q6 (Q6 rfl rfl rfl) rfl (Q01 S _))) (Q50 (Q6 rfl (Q6 rfl rfl rfl) (Q1a h.now (by rw [r.ln]; exact hi))) (zn rfl rfl h.gl) (Q6 rfl rfl rfl) (Q47 h.last (by rw [r.ll]; exact hi) _))) rfl)
  exact ⟨_,(Zd k).trans (fg _ _),⟨by rw [O7 (by decide)]; exact h.now,E3 b1,by rw [O7 (by decide)]; exact h.le,by rw [O7 (by decide)]; exact h.st⟩,D9,ext 1 _ (by decide)⟩
 | fl i=>
  have hi:i < n:=o;have k:W7 [some (.ref 3),some (Dx.fl i).V,none,none,none,none] S=.rt (.str "done") (S.set 0 (.lst ((s.now.set i (s.last.getD i [])).map Q5))):=
   Qa (Γ1:=[some (.ref 3),some (Dx.fl i).V,some (.ref 0),none,none,none]) (Qq (zn rfl rfl h.gn)) (Qa (Yu (Qp (Q6 (Q6 rfl rfl rfl) rfl (Um S J9))) (Xm (Qp (Q6 (Q6 rfl rfl rfl) rfl (Q01 S _))) (Q50 (Q6 (zn rfl rfl h.gl) (Q6 rfl rfl rfl) (Q1a h.last (by rw [r.ll]; exact hi))) rfl (Q6 rfl rfl rfl) (Q47 h.now (by rw [r.ln]; exact hi) _)))) rfl)
  exact ⟨_,(Zd k).trans (fg _ _),I _,D9,ext 0 _ (by decide)⟩
 | sd i=>
  have hi:i < n:=o;have k:W7 [some (.ref 3),some (Dx.sd i).V,none,none,none,none] S=.rt (.str "done") (S.set 2 (.lst (s.le.map Q5 ++ [Q5 (s.last.getD i [])]))):=
   Qa (Γ1:=[some (.ref 3),some (Dx.sd i).V,some (.ref 0),none,none,none]) (Qq (zn rfl rfl h.gn)) (Qa (Yu (Qp (Q6 (Q6 rfl rfl rfl) rfl (Um S J7))) (Yu (Qp (Q6 (Q6 rfl rfl rfl) rfl (Um S J8))) (Xm (Qp (Q6 (Q6 rfl rfl rfl) rfl (Q01 S _)))
    (Q3d (zn rfl rfl h.ge) (Xj h.le) (Q2 (Q6 (zn rfl rfl h.gl) (Q6 rfl rfl rfl) (Q1a h.last (by rw [r.ll]; exact hi))) rfl) (Q10 h.le (by rw [O2]; omega) _))))) rfl)
  refine ⟨_,(Zd k).trans (fg _ _),⟨by rw [O7 (by decide)]; exact h.now,by rw [O7 (by decide)]; exact h.last,?_,by rw [O7 (by decide)]; exact h.st⟩,D9,ext 2 _ (by decide)⟩;rw [E3 b2];show _=some (Cell.lst ((s.le ++ [s.last.getD i []]).map Q5));rw [F3]; rfl
 | cm l i=>
  obtain ⟨a3,hi⟩:=o;have wN:=r.wn i hi;have Y:s.le.getD l []∈s.le:=D6 (getD_some a3 []);have wL:=r.we _ Y;have h8:=wN.n8;have ej:=Qda (a:=s.now.getD i []) (b:=s.le.getD l []) (by rw [wN.len,wL.len]) (by rw [wN.len]; omega) (fun q hq=>by rw [wN.row q hq]; omega) S;have k:W7 [some (.ref 3),some (Dx.cm l i).V,none,none,none,none] S=.rt (.str "done") (S.set 0 (.lst ((s.now.set i (Wk (s.now.getD i []) (s.le.getD l []))).map Q5))):=
   Qa (Γ1:=[some (.ref 3),some (Dx.cm l i).V,some (.ref 0),none,none,none]) (Qq (zn rfl rfl h.gn)) (Qa (Yu (Qp (Q6 (Q6 rfl rfl rfl) rfl (Um S Jb))) (Yu (Qp (Q6 (Q6 rfl rfl rfl) rfl (Um S Jc))) (Yu (Qp (Q6 (Q6 rfl rfl rfl) rfl (Um S Ja))) (Xm (Qp (Q6 (Q6 rfl rfl rfl) rfl (Q01 S _)))
    (Q50 (Qd (n:=2) (Q2 (Q6 rfl (Q6 rfl rfl rfl) (Q1a h.now (by rw [r.ln]; exact hi))) (Q2 (Q6 (zn rfl rfl h.ge) (Q6 rfl rfl rfl) (Q1a h.le a3)) rfl)) rfl ej) rfl (Q6 rfl rfl rfl) (Q47 h.now (by rw [r.ln]; exact hi) _)))))) rfl)
  exact ⟨_,(Zd k).trans (fg _ _),I _,D9,ext 0 _ (by decide)⟩
structure RB (n:Nat) (M:Int) (s:RS):Prop where
 now:∀ i,i < n->Bd n M (s.now.getD i [])
 last:∀ i,i < n->Bd n M (s.last.getD i [])
 le:∀ L∈s.le,Bd n M L
def Dx.kb (M:Int):Dx->Prop
 | .own d=>d.k<=9 * M
 | _=>True
theorem RB.up {K:Int} (b:RB n M s) (h:M<=K):RB n K s:=⟨fun i hi=>(b.now i hi).up h,fun i hi=>(b.last i hi).up h,fun L q=>(b.le L q).up h⟩
theorem RB.step {t:Nat} (b:RB n (bM t) s) (r:RI n s) {x:Dx} (o:x.ok n s) (k:x.kb (bM t)):RB n (bM (t + 1)) (Zs n s x):=by
 have g:=Q6r t;have Y:bM t<=bM (t + 1):=by rw [Q2j]; omega
 have u:=b.up Y;have one:∀ {xs:List Tab} {h:Nat} {v:Tab},xs.length=n->h < n->(∀ i,i < n->Bd n (bM (t + 1)) (xs.getD i []))->Bd n (bM (t + 1)) v->∀ i,i < n->Bd n (bM (t + 1)) ((xs.set h v).getD i []):=fun {xs h v} hl B G hv i hi=>by
  rw [Zf (by omega)]
  split
  ·exact hv
  ·exact G i hi
 cases x with
 | own d=>
  have B:=Dd.ok_h o
  by_cases q:d.fits (s.now.getD d.h [])=true
  ·have I:Zs n s (.own d)=⟨s.now.set d.h (d.put n (s.now.getD d.h [])),s.last,s.le⟩:=bN q;rw [I];have k:d.k<=9 * bM t:=k;exact ⟨one r.ln B u.now ((b.now _ B).put (r.wn _ B) o (by rw [Q2j]; omega)),u.last,u.le⟩
  ·have I:Zs n s (.own d)=s:=bO q;rw [I]; exact u
 | kp i=>exact ⟨u.now,one r.ll o u.last (u.now i o),u.le⟩
 | fl i=>exact ⟨one r.ln o u.now (u.last i o),u.last,u.le⟩
 | sd i=>
  refine ⟨u.now,u.last,fun L Z=>?_⟩;rcases F1.mp Z with h | h
  ·exact u.le L h
  ·rw [List.mem_singleton.mp h]; exact u.last i o
 | cm l i=>
  obtain ⟨J,B⟩:=o;have U:s.le.getD l []∈s.le:=D6 (getD_some J []);refine ⟨one r.ln B u.now ⟨fun a j G O=>?_⟩,u.last,u.le⟩;rw [Q2g (r.wn i B).sz (r.we _ U).sz G O];have h1:=(u.now i B).le a j G O;have h2:=(u.le _ U).le a j G O;rcases Qe1 (ent (s.now.getD i []) a j) (ent (s.le.getD l []) a j) with e | e
  ·rw [e]; exact h1
  ·rw [e]; exact h2
theorem Qx0 {k:Nat} {xs:List Tab} (h:S[k]?=some (.lst (xs.map Q5))) (q:xs≠[]):oEq S (.ref k) (.lst [])=.ok (.bl false) S:=by
 have g:Zq dep (.lst (xs.map Q5))=true:=by
  simp [dep,Zq,Q5,Qt]
 cases xs with
 | nil=>exact absurd rfl q
 | cons a xs=>
  have g2:Zq dep (.lst [])=true:=rfl;have hp:peq (.lst (Q5 a :: xs.map Q5)) (.lst [])=false:=by rw [peq]; rfl
  simp only [F2] at h g;simp [oEq,der,h,g,g2,hp]
abbrev drG (L:Nat) (c2 c3 c4 c5 c6:Option PV):Gam:=[some (.ref L),some (.ref 3),c2,c3,c4,c5,c6]
theorem Qgz {t:Nat} (h:LS s S) (r:RI n s) (b:RB n (bM t) s) (ht:t<=60) (T:Tp S L) (hL:4<=L) (b0:s.le.length < 90) (h1:1<=n) (h8:n<=8) :
  ∃ (x:Dx) (S':Q1),x.ok n s/\x.kb (bM t)/\Tp S' L/\Mv L S S'/\V0 [.ref L,.ref 3] S=.ok x.V S':=by
 have en:Zt S [.ref 0]=.ok (.int n) S:=by
  have hV:ListAt S (.ref 0) (s.now.map Q5):=.inr (.inr ⟨0,rfl,h.now⟩);rw [hV.len,O2,r.ln]
 obtain ⟨i,S1,hi,T1,M1,e1⟩:=Y4 T n h1 (by omega);obtain ⟨y,S2,hy,T2,M2,e2⟩:=Y4 T1 12 (by decide) (by decide);have e2:Q8 [.ref L,.int 12] S1=.ok (.int y) S2:=e2;have a5:=M1.trans M2;have l2:=h.mv a5 hL;have w:=r.wn i hi;have e3:=xy w.sz (by omega) hi S2;have ix:=Q1a l2.now (show i < s.now.length by rw [r.ln]; exact hi);obtain ⟨v,hv⟩:∃ v:Nat,(if Qi (s.now.getD i []) i > 0 then Qi (s.now.getD i []) i else 0)=(v:Int):=⟨(if Qi (s.now.getD i []) i > 0 then Qi (s.now.getD i []) i else 0).toNat,by split <;> omega⟩;have g:=Q6r t;have a9:(v:Int)<=8 * bM t:=by
  have:=Q2r w (b.now i hi) (by omega) hi;rw [<- hv]; split <;> omega
 have a8:=Qr1 (t:=t) ht;have a7:v + 2 < 2 ^ 8000:=Q9u (by
  have:((v + 2:Nat):Int) < 10 ^ 100:=by omega
  exact_mod_cast this)
 obtain ⟨z,B,hz,T3,M3,e4⟩:=zu T2 (v + 2) (by omega) a7;have e4:Q8 [.ref L,.int ((v:Int) + 2)] S2=.ok (.int z) B:=e4;have I:=a5.trans M3;have l3:=h.mv I hL;have em:Q3c S2 [.int 0,.int (Qi (s.now.getD i []) i)]=.ok (.int v) S2:=by rw [Q6q,hv]
 have k1:Qz 2 (Qw Zt (Q0 (Vj (Q3 1) (mC (.str "now"))) Q4)) (drG L none none none none none) S=.nx (drG L (some (.int n)) none none none none) S:=Qq (W9 (Q2 (zn rfl rfl h.gn) rfl) en);have k2:Qz 3 (Qc 2 Q8 (Q0 (Q3 0) (Q0 (Q3 2) Q4))) (drG L (some (.int n)) none none none none) S=.nx (drG L (some (.int n)) (some (.int i)) none none none) S1:=Qq (Qd (n:=2) (Q2 rfl (Q2 rfl rfl)) rfl e1);have k3:Qz 4 (Qc 2 Q8 (Q0 (Q3 0) (Q0 (mC (.int 12)) Q4))) (drG L (some (.int n)) (some (.int i)) none none none) S1=.nx (drG L (some (.int n)) (some (.int i)) (some (.int y)) none none) S2:=Qq (Qd (n:=2) (Q2 rfl (Q2 rfl rfl)) rfl e2);have k4:Qz 5 (Qw Q3c (Q0 (mC (.int 0)) (Q0 (Qc 2 J0 (Q0 (mOp oIx (Vj (Q3 1) (mC (.str "now"))) (Q3 3)) (Q0 (Q3 3) Q4))) Q4))) (drG L (some (.int n)) (some (.int i)) (some (.int y)) none none) S2=.nx (drG L (some (.int n)) (some (.int i)) (some (.int y)) (some (.int v)) none) S2:=Qq (W9 (Q2 rfl (Q2 (Qd (n:=2) (Q2 (Q6 (zn rfl rfl l2.gn) rfl ix) (Q2 rfl rfl)) rfl e3) rfl)) em)
 obtain ⟨G,hG⟩:∃ G,drG L (some (.int n)) (some (.int i)) (some (.int y)) (some (.int v)) (some (.int (1 + (z:Int))))=G:=⟨_,rfl⟩;have k5:Qz 6 (mOp Yb (mC (.int 1)) (Qc 2 Q8 (Q0 (Q3 0) (Q0 (mOp Yb (Q3 5) (mC (.int 2))) Q4)))) (drG L (some (.int n)) (some (.int i)) (some (.int y)) (some (.int v)) none) S2=.nx G B:=by
  rw [<- hG];exact Qq (Q6 rfl (Qd (n:=2) (Q2 rfl (Q2 (Q6 rfl rfl (Q2k S2 _ _)) rfl)) rfl e4) (Q2k B _ _))
 have v0:Q3 0 G B=.ok (.ref L) B:=by rw [<- hG]; rfl
 have v1:Q3 1 G B=.ok (.ref 3) B:=by rw [<- hG]; rfl
 have v2:∀ S,Q3 2 G S=.ok (.int n) S:=fun S=>by rw [<- hG]; rfl
 have v3:∀ S,Q3 3 G S=.ok (.int i) S:=fun S=>by rw [<- hG]; rfl
 have Y:Q3 4 G B=.ok (.int y) B:=by rw [<- hG]; rfl
 have v6:∀ S,Q3 6 G S=.ok (.int (1 + (z:Int))) S:=fun S=>by rw [<- hG]; rfl
 have fg:∀ {S':Q1} (x:Dx),Mv L S S'->fin S x.V S'=.ok x.V S':=fun {S'} x M=>Q3b M.len (by cases x with | own d=>cases d <;> rfl | _=>rfl)
 have J:∀ (x:Dx) (S':Q1),Mv L S S'->_->V0 [.ref L,.ref 3] S=.ok x.V S':=fun x S' M (q:_=SR.rt x.V S')=>(Zd (m:=jx) (nl:=7) (ps:=[.ref L,.ref 3]) (Qa k1 (Qa k2 (Qa k3 (Qa k4 (Qa k5 q)))))).trans (fg x M)
 by_cases q0:y=0
 ·obtain ⟨k,O,hk,T4,U,Z⟩:=Qbu T3;refine ⟨.own (.mk i k),O,⟨hi,hk.1⟩,?_,T4,I.trans U,J _ _ (I.trans U) (qb (Xm (Qp (Q6 Y rfl (Q3i B (by omega)))) (Wj (Vg (Q2 rfl (Q2 (v3 B) (Q2 (Qd (n:=1) (Q2 v0 rfl) rfl Z) rfl))) (by simp)))))⟩;show k<=9 * bM t;omega
 have t0:Ye (toB (mOp oEq (Q3 4) (mC (.int 0)))) (Jv (Y2 (Q0 (mC (.str "make")) (Q0 (Q3 3) (Q0 (Qc 1 Wb (Q0 (Q3 0) Q4)) Q4))))) Zw G B=.nx G B:=Yu (Qp (Q6 Y rfl (Q6k B (by omega)))) rfl
 by_cases q1:y < 4/\1 < n
 ·obtain ⟨u,O,hu,T4,U,Z⟩:=Y4 T3 (n - 1) (by omega) (by omega);have Z:Q8 [.ref L,.int ((n:Int) - 1)] B=.ok (.int u) O:=by rw [show ((n:Int) - 1)=((n - 1:Nat):Int) by omega]; exact Z
  obtain ⟨j,ej,hj,a2⟩:=Qdw hi hu;refine ⟨.own (.ld i j (1 + (z:Int))),O,⟨hi,hj,a2,by omega⟩,?_,T4,I.trans U,J _ _ (I.trans U) (Qa t0 (qb (Xm (Q6t (Qp (Q6 Y rfl (Q63 B (by omega)))) (Qp (Q6 (v2 B) rfl (Qqw B (by omega))))) (Wj (Vg (Q2 rfl (Q2 (v3 B) (Q2 (Q6 (Q6 (Q6 (v3 B) rfl (Q2k B _ _)) (Qd (n:=2) (Q2 v0 (Q2 (Q6 (v2 B) rfl (Qrn B _ _)) rfl)) rfl Z) (Q2k O _ _)) (v2 O) (by rw [Qtg O (by omega),ej])) (Q2 (v6 O) rfl)))) (by simp))))))⟩;show 1 + (z:Int)<=9 * bM t;omega
 have t1:Ye (xz (toB (mOp oLt (Q3 4) (mC (.int 4)))) (toB (mOp (oI fun a b=>.bl (decide (b < a))) (Q3 2) (mC (.int 1))))) (Jv (Y2 (Q0 (mC (.str "lend")) (Q0 (Q3 3) (Q0 (mOp Q27 (mOp Yb (mOp Yb (Q3 3) (mC (.int 1))) (Qc 2 Q8 (Q0 (Q3 0) (Q0 (mOp (oI fun a b=>.int (a - b)) (Q3 2) (mC (.int 1))) Q4)))) (Q3 2)) (Q0 (Q3 6) Q4)))))) Zw G B=.nx G B:=by
  refine Yu ?_ rfl
  by_cases q2:y < 4
  ·exact Q6t (Qp (Q6 Y rfl (Q63 B (by omega)))) (Qp (Q6 (v2 B) rfl (Qqx B (by omega))))
  ·exact Qks (Qp (Q6 Y rfl (Q84 B (by omega))))
 by_cases q2:y < 6
 ·refine ⟨.own (.us i (1 + (z:Int))),B,⟨hi,by omega⟩,?_,T3,I,J _ _ I (Qa t0 (Qa t1 (qb (Xm (Qp (Q6 Y rfl (Q63 B (by omega)))) (Wj (Vg (Q2 rfl (Q2 (v3 B) (Q2 (v6 B) rfl))) (by simp)))))))⟩;show 1 + (z:Int)<=9 * bM t;omega
 have t2:Ye (toB (mOp oLt (Q3 4) (mC (.int 6)))) (Jv (Y2 (Q0 (mC (.str "use")) (Q0 (Q3 3) (Q0 (Q3 6) Q4))))) Zw G B=.nx G B:=Yu (Qp (Q6 Y rfl (Q84 B (by omega)))) rfl
 by_cases q3:y < 8
 ·obtain ⟨u,O,hu,T4,U,Z⟩:=Y4 T3 3 (by decide) (by decide);have Z:Q8 [.ref L,.int 3] B=.ok (.int u) O:=Z;have a3:Kv (Q0 (mC (.str "keep")) (Q0 (mC (.str "fall")) Q4)) G B=.ok (.lst [.str "keep",.str "fall"]) B:=j4 rfl;have a4:Qc 2 Q8 (Q0 (Q3 0) (Q0 (mC (.int 3)) Q4)) G B=.ok (.int u) O:=Qd (n:=2) (Q2 v0 (Q2 rfl rfl)) rfl Z
  by_cases qu:u=0
  ·refine ⟨.fl i,O,hi,trivial,T4,I.trans U,J _ _ (I.trans U) (Qa t0 (Qa t1 (Qa t2 (qb (Xm (Qp (Q6 Y rfl (Q63 B (by omega)))) (Wj (Vg (Q2 (Q6 a3 (W9 (Q2 (Q6 a4 rfl (Q3i O (by omega))) rfl) rfl) rfl) (Q2 (v3 O) rfl)) (by simp))))))))⟩
  ·refine ⟨.kp i,O,hi,trivial,T4,I.trans U,J _ _ (I.trans U) (Qa t0 (Qa t1 (Qa t2 (qb (Xm (Qp (Q6 Y rfl (Q63 B (by omega)))) (Wj (Vg (Q2 (Q6 a3 (W9 (Q2 (Q6 a4 rfl (Q6k O (by omega))) rfl) rfl) rfl) (Q2 (v3 O) rfl)) (by simp))))))))⟩
 have t3:∀ X,Ye (toB (mOp oLt (Q3 4) (mC (.int 8)))) X Zw G B=.nx G B:=fun X=>Yu (Qp (Q6 Y rfl (Q84 B (by omega)))) rfl
 have ed:Vj (Q3 1) (mC (.str "letters")) G B=.ok (.ref 2) B:=zn v1 rfl l3.ge
 by_cases q4:y=8\/s.le=[]
 ·refine ⟨.sd i,B,hi,trivial,T3,I,J _ _ I (Qa t0 (Qa t1 (Qa t2 (Qa (t3 _) (qb (Xm ?_ (Wj (Vg (Q2 rfl (Q2 (v3 B) rfl)) (by simp)))))))))⟩
  by_cases q5:y=8
  ·exact Qwc (Qp (Q6 Y rfl (Q3i B (by omega))))
  ·have hz:s.le=[]:=q4.resolve_left q5;have hV:ListAt B (.ref 2) []:=.inr (.inr ⟨2,rfl,by rw [l3.le,hz]; rfl⟩);exact Qnt (Qp (Q6 Y rfl (Q6k B (by omega)))) (Qp (Q6 ed rfl (hV.eqs rfl).2.2.2))
 ·have a2:s.le≠[]:=fun z=>q4 (.inr z)
  have a6:1<=s.le.length:=by cases hs:s.le with | nil=>exact absurd hs a2 | cons a b=>simp
  obtain ⟨u,O,hu,T4,U,Z⟩:=Y4 T3 s.le.length a6 (by omega);have hV:ListAt B (.ref 2) (s.le.map Q5):=.inr (.inr ⟨2,rfl,l3.le⟩);have el:Zt B [.ref 2]=.ok (.int s.le.length) B:=by rw [hV.len,O2]
  have ne:oEq B (.ref 2) (.lst [])=.ok (.bl false) B:=Qx0 l3.le a2;have t4:Ye (Q3q (toB (mOp oEq (Q3 4) (mC (.int 8)))) (toB (mOp oEq (Vj (Q3 1) (mC (.str "letters"))) (Kv Q4)))) (Jv (Y2 (Q0 (mC (.str "send")) (Q0 (Q3 3) Q4)))) Zw G B=.nx G B:=Yu (Qnt (Qp (Q6 Y rfl (Q6k B (by omega)))) (Qp (Q6 ed rfl ne))) rfl;exact ⟨.cm u i,O,⟨hu,hi⟩,trivial,T4,I.trans U,J _ _ (I.trans U) (Qa t0 (Qa t1 (Qa t2 (Qa (t3 _) (Qa t4 (Wj (Vg (Q2 rfl (Q2 (Qd (n:=2) (Q2 v0 (Q2 (W9 (Q2 ed rfl) el) rfl)) rfl Z) (Q2 (v3 O) rfl))) (by simp))))))))⟩
theorem Qbt (xs:List PV) (v:PV):atI (xs ++ [v]) (-1)=some v:=by
 have e:ixN (xs ++ [v]).length (-1)=some xs.length:=by
  rw [O6];unfold ixN;rw [bO (by omega),bN (by simp; omega)];simp; omega
 unfold atI;rw [e];simp
structure AI (n:Nat) (tb:Tab) (xs:List Dx) (S:Q1):Prop where
 ok:OkL n (s0 n tb) xs
 ls:LS (U3 n (s0 n tb) xs) S
 de:S[4]?=some (.lst (xs.map Dx.V))
 an:S[5]?=some (.lst (Q0r n (s0 n tb) xs))
 rb:RB n (bM (8 + xs.length)) (U3 n (s0 n tb) xs)
 len:6<=S.length
abbrev apG (ns:List Int) (m:Nat) (tb:Tab) (c7 c8 c9:Option PV):Gam:=[some (.fro (ns.map .int)),some (.int 1),some (.int m),some (Q5 tb),some (.ref 3),some (.ref 4),some (.ref 5),c7,c8,c9]
theorem Qui {tb:Tab} (w:Wt' n tb) {xs:List Dx} (I:AI n tb xs S) (T:Tp S L) (hL:6<=L) (hx:xs.length<=45) (ns:List Int) (m:Nat) (c7 Z:Option PV):∃ (x:Dx) (S':Q1),Vt (apG ns m tb c7 (some (.ref L)) Z) S=.nx (apG ns m tb c7 (some (.ref L)) Z) S'/\AI n tb (xs ++ [x]) S'/\Tp S' L:=by
 have r:=(RI.start w).run I.ok;have a5:=Qcx n xs (s0 n tb);have a4:(s0 n tb).le.length=0:=rfl;obtain ⟨x,S1,O,kx,T1,M1,e1⟩:=Qgz I.ls r I.rb (by omega) T (by omega) (by omega) w.n1 w.n8;have l1:=I.ls.mv M1 (by omega);have d1:S1[4]?=some (.lst (xs.map Dx.V)):=by rw [M1.keep 4 (by omega)]; exact I.de
 have a1:S1[5]?=some (.lst (Q0r n (s0 n tb) xs)):=by rw [M1.keep 5 (by omega)]; exact I.an
 have b4:=(O0.mp d1).1;have b5:=(O0.mp a1).1;have B:=Q10 d1 (by rw [O2]; omega) x.V;obtain ⟨S2,q⟩:∃ S2,S1.set 4 (.lst (xs.map Dx.V ++ [x.V]))=S2:=⟨_,rfl⟩;rw [q] at B;have d2:S2[4]?=some (.lst (xs.map Dx.V ++ [x.V])):=by rw [<- q]; exact E3 b4
 have k2:∀ t,t≠4->S2[t]?=S1[t]?:=fun t ht=>by rw [<- q]; exact O7 (by omega)
 have l2:LS (U3 n (s0 n tb) xs) S2:=l1.of fun t ht=>k2 t (by omega)
 have Y:S2[5]?=some (.lst (Q0r n (s0 n tb) xs)):=by rw [k2 5 (by omega)]; exact a1
 obtain ⟨S3,e2,l3,G,k3⟩:=Qkq l2 r O (by omega);have a3:S3[5]?=some (.lst (Q0r n (s0 n tb) xs)):=by rw [k3 5 (by omega)]; exact Y
 have U:=(O0.mp a3).1;have hV:ListAt S2 (.ref 4) (xs.map Dx.V ++ [x.V]):=.inr (.inr ⟨4,rfl,d2⟩);have ix:oIx S2 (.ref 4) (.int (-1))=.ok x.V S2:=by rw [hV.ix,Qbt]; rfl
 have J:=Q10 a3 (by rw [Q9w]; omega) (Q46 (U3 n (s0 n tb) xs) x);have er:U3 n (s0 n tb) (xs ++ [x])=Zs n (U3 n (s0 n tb) xs) x:=by rw [Q91]; rfl
 have ea:Q0r n (s0 n tb) (xs ++ [x])=Q0r n (s0 n tb) xs ++ [Q46 (U3 n (s0 n tb) xs) x]:=by rw [Q9x]; rfl
 refine ⟨x,_,Qa (Q3d (p:=.ref 4) rfl (Xj I.de) (Q2 (Qd (n:=2) (Q2 rfl (Q2 rfl rfl)) rfl e1) rfl) B) (Q3d (p:=.ref 5) rfl (Xj Y) (Q2 (Qd (n:=2) (Q2 rfl (Q2 (Q6 rfl rfl ix) rfl)) rfl e2) rfl) J),⟨?_,?_,?_,?_,?_,?_⟩,?_⟩
 ·exact (Q4e n xs [x] _).mpr ⟨I.ok,O,trivial⟩
 ·rw [er]; exact l3.of fun t ht=>O7 (by omega)
 ·rw [O7 (by decide),k3 4 (by decide),d2,F3]; rfl
 ·rw [ea,E3 U]
 ·rw [er,O6]; exact I.rb.step r O kx
 ·rw [D9,G,<- q,D9,M1.len]; exact I.len
 ·obtain ⟨c,hc⟩:=T1;exact ⟨c,by rw [O7 (by omega),k3 L (by omega),k2 L (by omega)]; exact hc⟩
theorem Quj {tb:Tab} (w:Wt' n tb) {xs:List Dx} (I:AI n tb xs S) (hx:xs.length<=40) (ns:List Int) (m k:Nat) (c8 J:Option PV):∃ (ys:List Dx) (S':Q1) (d8 d9:Option PV),ys.length=xs.length + 3/\Vu (apG ns m tb (some (.int (1 + (k:Int)))) c8 J) S=.nx (apG ns m tb (some (.int (1 + (k:Int)))) d8 d9) S'/\AI n tb ys S':=by
 obtain ⟨c,O⟩:=Q6s ns (1 + k) S;rw [show ((1 + k:Nat):Int)=1 + (k:Int) by omega] at O;obtain ⟨S1,q⟩:∃ S1,S ++ [Cell.lst [.int c]]=S1:=⟨_,rfl⟩;rw [q] at O;have T1:Tp S1 S.length:=⟨c,by rw [<- q]; simp⟩;have hl:=I.len;have k1:∀ t,t < 6->S1[t]?=S[t]?:=fun t ht=>by rw [<- q,O3 (by omega)]
 have I1:AI n tb xs S1:=⟨I.ok,I.ls.of fun t ht=>k1 t (by omega),by rw [k1 4 (by decide)]; exact I.de,by rw [k1 5 (by decide)]; exact I.an,I.rb,by rw [<- q,O6]; omega⟩;obtain ⟨a2,S',e,ys,G,B,rfl,Z,_⟩:=Q0m (g:=fun k:Nat=>PV.int (k:Int)) (xs:=List.range 3) (ga:=Qg 9) (body:=Vt) (w:=[]) (Γ:=apG ns m tb (some (.int (1 + (k:Int)))) (some (.ref S.length)) J) (st:=S1)
  (fun j Γ st=>∃ ys G,ys.length=xs.length + j/\Γ=apG ns m tb (some (.int (1 + (k:Int)))) (some (.ref S.length)) G/\AI n tb ys st/\Tp st S.length) (fun _ _ _ _=>by simp)
  (fun j x Γ st hj ⟨ys,G,B,Y,I,T⟩=>by
   subst Y;have a3:j < 3:=by simpa using (O0.mp hj).1
   obtain ⟨y,S',e,Z,T'⟩:=Qui w I T hl (by omega) ns m (some (.int (1 + (k:Int)))) (some (.int x));exact ⟨_,rfl,_,_,e,ys ++ [y],_,by rw [O6,B]; rfl,rfl,Z,T'⟩)
  ⟨xs,_,rfl,rfl,I1,T1⟩
 rw [<- Uw] at e;have U:Yj (Q0 (mC (.int 3)) Q4) (apG ns m tb (some (.int (1 + (k:Int)))) (some (.ref S.length)) J) S1=.ok (Zh 0 3,[]) S1:=by
  rw [Ui,Q2 (m:=mC (.int 3)) (p:=.int 3) (S1:=S1) rfl (show Q4 _ S1=.ok [] S1 from rfl),Qs];exact bN (by rw [Ju]; omega)
 exact ⟨ys,S',_,_,B,Qa (Γ1:=apG ns m tb (some (.int (1 + (k:Int)))) (some (.ref S.length)) J) (Qq (Qd (n:=2) (Q2 rfl (Q2 rfl rfl)) rfl O)) (Q1t U e),Z⟩
theorem Qgx {tb:Tab} (w:Wt' n tb):Wz [Q5 tb] []=.ok (.ref 3) [.lst ((List.replicate n tb).map Q5),.lst ((List.replicate n tb).map Q5),.lst [],.dic stD]:=by
 have Y:=w.n8;have J:((List.range n).map fun _=>Q5 tb)=(List.replicate n tb).map Q5:=by
  rw [List.map_replicate];exact List.eq_replicate_iff.mpr ⟨by simp,fun b U=>by obtain ⟨_,_,rfl⟩:=List.mem_map.mp U; rfl⟩
 have B:∀ S:Q1,Yj (Q0 (Qw Zt (Q0 (Q3 0) Q4)) Q4) [some (Q5 tb)] S=.ok (Zh 0 n,[]) S:=fun S=>by
  have q:Zt S [Q5 tb]=.ok (.int n) S:=by simp [Q5,w.len]
  rw [Ui,Q2 (W9 (Q2 (m:=Q3 0) (p:=Q5 tb) (S1:=S) rfl (show Q4 _ S=.ok [] S from rfl)) q) (show Q4 _ S=.ok [] S from rfl),Qs];show (if -(lim:Int)<=(n:Int)/\(n:Int)<=lim then _ else _)=_;rw [bN (by rw [Ju]; omega),Int.toNat_natCast]
 have G:∀ S:Q1,Jf (Qg 0) Zg Kc [] (Zc [none,some 0] [some (Q5 tb)]) (Zh 0 n) S=.ok ((List.replicate n tb).map Q5) S:=fun S=>by
  rw [Uw,<- J];exact Yf _ _ (by simp) fun j O=>⟨_,rfl,rfl⟩
 have I:∀ S:Q1,Jf (Qg 0) Zg Kb [] (Zc [none,some 0] [some (Q5 tb)]) (Zh 0 n) S=.ok ((List.replicate n tb).map Q5) S:=fun S=>by
  rw [Uw,<- J];exact Yf _ _ (by simp) fun j O=>⟨_,rfl,rfl⟩
 have step:jw [some (Q5 tb)] []=.rt (.ref 3) [.lst ((List.replicate n tb).map Q5),.lst ((List.replicate n tb).map Q5),.lst [],.dic stD]:=by
  refine Wj ?_;rw [Qfx,qa (Ub (B _) (G _)),Qs,qa (Ub (B _) (I _)),Qs,qa (ps:=[]) rfl,Qs];rfl
 exact zr step
theorem Qd8 {tb:Tab} (J:TbI n 8 tb) (ns:List Int) (m:Nat) (hm:m<=13):∃ (xs:List Dx) (S':Q1),xs.length=3 * m/\AI n tb xs S'/\Vp [.fro (ns.map .int),.int 1,.int m,Q5 tb] []=.ok (.tup [.ref 4,.ref 5,.ref 3]) S':=by
 have w:=J.w;have e0:=Qgx w;obtain ⟨A,Y⟩:∃ A,[Cell.lst ((List.replicate n tb).map Q5),.lst ((List.replicate n tb).map Q5),.lst [],.dic stD]=A:=⟨_,rfl⟩;have A6:A ++ [Cell.lst []] ++ [Cell.lst []]=[Cell.lst ((List.replicate n tb).map Q5),.lst ((List.replicate n tb).map Q5),.lst [],.dic stD,.lst [],.lst []]:=by rw [<- Y]; rfl
 have IA:AI n tb [] (A ++ [Cell.lst []] ++ [Cell.lst []]):=by
  rw [A6];refine ⟨trivial,⟨rfl,rfl,rfl,rfl⟩,rfl,rfl,?_,O8 6⟩;have e:∀ i,i < n->(List.replicate n tb).getD i []=tb:=fun i hi=>Q20 hi
  refine ⟨fun i hi=>?_,fun i hi=>?_,fun L hL=>absurd hL F6⟩
  ·show Bd n (bM 8) ((List.replicate n tb).getD i []); rw [e i hi]; exact J.b
  ·show Bd n (bM 8) ((List.replicate n tb).getD i []); rw [e i hi]; exact J.b
 rw [Y] at e0;have lA:A.length=4:=by rw [<- Y]; rfl
 obtain ⟨a2,S',e,xs,Z,G,B,q,rfl,I⟩:=Q0m (g:=fun k:Nat=>PV.int (1 + (k:Int))) (xs:=List.range m) (ga:=Qg 7) (body:=Vu) (w:=[]) (Γ:=apG ns m tb none none none) (st:=A ++ [Cell.lst []] ++ [Cell.lst []])
  (fun j Γ st=>∃ xs Z G B,xs.length=3 * j/\Γ=apG ns m tb Z G B/\AI n tb xs st) (fun _ _ _ _=>by simp)
  (fun j x Γ st hj ⟨xs,Z,G,B,q,U,I⟩=>by
   subst U;have a4:j < m:=by simpa using (O0.mp hj).1
   obtain ⟨ys,S',d8,d9,a3,e,I'⟩:=Quj w I (by omega) ns m x G B;exact ⟨_,rfl,_,_,e,ys,_,_,_,by omega,rfl,I'⟩)
  ⟨[],_,_,_,rfl,rfl,IA⟩
 rw [G9] at q;have O:xb (Q0 (Q3 1) (Q0 (mOp Yb (Q3 1) (Q3 2)) Q4)) (apG ns m tb none none none) (A ++ [Cell.lst []] ++ [Cell.lst []])=.ok ((List.range m).map fun k:Nat=>PV.int (1 + (k:Int)),[]) (A ++ [Cell.lst []] ++ [Cell.lst []]):=by
  rw [Q60,Q2 (m:=Q3 1) (p:=.int 1) rfl (Q2 (Q6 (a:=Q3 1) (b:=Q3 2) (x:=.int 1) (y:=.int m) rfl rfl (Q2k _ _ _)) (show Q4 _ _=.ok [] _ from rfl)),Qs];show (if -(lim:Int)<=1/\1<=(lim:Int)/\-(lim:Int)<=1 + (m:Int)/\1 + (m:Int)<=lim then _ else _)=_;rw [bN (by rw [Ju]; omega),show (1 + (m:Int) - 1).toNat=m by omega]; rfl
 refine ⟨xs,S',q,I,?_⟩;have s1:Qz 4 (Qc 1 Wz (Q0 (Q3 3) Q4)) [some (.fro (ns.map .int)),some (.int 1),some (.int m),some (Q5 tb),none,none,none,none,none,none] []=.nx [some (.fro (ns.map .int)),some (.int 1),some (.int m),some (Q5 tb),some (.ref 3),none,none,none,none,none] A:=Qq (Qd (n:=1) (Q2 rfl rfl) rfl e0);have s2:Qz 5 (Q02 (jd Q4)) [some (.fro (ns.map .int)),some (.int 1),some (.int m),some (Q5 tb),some (.ref 3),none,none,none,none,none] A=.nx [some (.fro (ns.map .int)),some (.int 1),some (.int m),some (Q5 tb),some (.ref 3),some (.ref 4),none,none,none,none] (A ++ [.lst []]):=(Qq (qa (ps:=[]) (S1:=A) rfl)).trans (by rw [lA]; rfl);have s3:Qz 6 (Q02 (jd Q4)) [some (.fro (ns.map .int)),some (.int 1),some (.int m),some (Q5 tb),some (.ref 3),some (.ref 4),none,none,none,none] (A ++ [.lst []])=.nx (apG ns m tb none none none) (A ++ [.lst []] ++ [.lst []]):=(Qq (qa (ps:=[]) (S1:=A ++ [.lst []]) rfl)).trans (by rw [O6,lA]; rfl)
 exact zr (m:=qv) (nl:=10) (Qa s1 (Qa s2 (Qa s3 (Qa (Q1t O e) (Wj (Vg (Q2 rfl (Q2 rfl (Q2 rfl rfl))) (by simp)))))))
theorem Qdi {a b:MS} {x:Exc} (h:a Γ S=.exc x S1):Qf a b Γ S=.exc x S1:=by rw [Q5z,h]
theorem Qjs {x:Exc} (h:m Γ S=.exc x S1):Wd m Γ S=.exc x S1:=by rw [Q2c,h]; rfl
theorem Qgc (S:Q1) (cn:Str):Qd1 S ⟨cn,none⟩ S=.exc ⟨cn,none⟩ S:=by unfold Qd1; rw [bN List.prefix_rfl]
theorem xu {m:MS} {cn:Str} (h:m (ps.map some ++ List.replicate (nl - ps.length) none) S=.exc ⟨cn,none⟩ S):Qh m nl ps S=.exc ⟨cn,none⟩ S:=by unfold Qh; rw [h]; exact Qgc S cn
theorem Q8s {a b:ME} {r:Res PV} (h:a Γ S=.ok (.bl true) S1) (h2:b Γ S1=r):Q43 a b Γ S=r:=by rw [Qe6,h]; exact h2
theorem Qbv {a b:ME} (h:a Γ S=.ok (.bl false) S1):Q43 a b Γ S=.ok (.bl false) S1:=by rw [Qe6,h]; rfl
def DW (w:Str) (ns:List Int):PV:=.tup (.str w :: ns.map .int)
def pnV:Option Int->PV
 | some k=>.int k
 | none=>.non
def pDi (w:Str):Option Int:=if w = "make" then some 3 else if w = "lend" then some 4 else if w = "use" then some 3 else none
def pOi (w:Str):Option Int:=if w = "keep" then some 2 else if w = "fall" then some 2 else if w = "send" then some 2 else if w = "come" then some 3 else none
variable {m:ME} {Γ:Gam} {ns:List Int} {v T LV:PV}
section
variable {w:Str}
theorem Qaj (h:m Γ S=.ok (.str w) S):Q61 m Γ S=.ok (pnV (pDi w)) S:=by
 unfold Q61 pDi;rw [h];simp only [Qs]
 split
 ·rfl
 ·split
  ·rfl
  ·split <;> rfl
theorem Qff (h:m Γ S=.ok (.str w) S):Uz m Γ S=.ok (pnV (pOi w)) S:=by
 unfold Uz pOi;rw [h];simp only [Qs]
 split
 ·rfl
 ·split
  ·rfl
  ·split
   ·rfl
   ·split <;> rfl
theorem eqp (a:Int) (o:Option Int):oEq S (.int a) (pnV o)=.ok (.bl (decide (o=some a))) S:=by
 cases o with
 | none=>rfl
 | some k=>
  by_cases q:a=k
  ·subst q; simp [pnV]
  ·have B:¬ k=a:=fun z=>q z.symm
   simp [pnV,q,B]
theorem dv0 (w:Str) (ns:List Int):oIx S (DW w ns) (.int 0)=.ok (.str w) S:=by
 have:=Sm.atI_get (show (PV.str w :: ns.map .int)[0]?=some (.str w) from rfl);rw [show ((0:Nat):Int)=0 from rfl] at this;unfold DW;rw [Q9a,this]; rfl
theorem dvl (w:Str) (ns:List Int):Zt S [DW w ns]=.ok (.int ((ns.length:Int) + 1)) S:=by unfold DW; simp
theorem Qk1 (hl:ns.length<=100) (h:pDi w≠some ((ns.length:Int) + 1)):Jd [DW w ns] S=.ok (.bl false) S:=by
 have e:=eqp (S:=S) ((ns.length:Int) + 1) (pDi w);rw [bP h] at e;have t:Q9 [DW w ns] S=.ok (.bl true) S:=W5 w ns hl S;exact (Zd (m:=Yz) (nl:=1) (ps:=[DW w ns]) (Wj (Q8s (Qd (n:=1) (Q2 rfl rfl) rfl t) (Qbv (Q6 (W9 (Q2 rfl rfl) (dvl w ns)) (Qaj (Q6 rfl rfl (dv0 w ns))) e))))).trans (Yw S false)
theorem Qk0 (hl:ns.length<=100) (h:pDi w=some ((ns.length:Int) + 1)) {k:Int} (q:oIx S (DW w ns) (.int (-1))=.ok (.int k) S):Jd [DW w ns] S=.ok (.bl (decide (1<=k))) S:=by
 have e:=eqp (S:=S) ((ns.length:Int) + 1) (pDi w);rw [bQ h] at e;have t:Q9 [DW w ns] S=.ok (.bl true) S:=W5 w ns hl S;exact (Zd (m:=Yz) (nl:=1) (ps:=[DW w ns]) (Wj (Q8s (Qd (n:=1) (Q2 rfl rfl) rfl t) (Q8s (Q6 (W9 (Q2 rfl rfl) (dvl w ns)) (Qaj (Q6 rfl rfl (dv0 w ns))) e) (Q6 (Q6 rfl rfl q) rfl rfl))))).trans (Yw S _)
theorem Q4d (hl:ns.length<=100):Qk [DW w ns] S=.ok (.bl (decide (pOi w=some ((ns.length:Int) + 1)))) S:=by
 have t:Q9 [DW w ns] S=.ok (.bl true) S:=W5 w ns hl S;exact (Zd (m:=Jg) (nl:=1) (ps:=[DW w ns]) (Wj (Q8s (Qd (n:=1) (Q2 rfl rfl) rfl t) (Q6 (W9 (Q2 rfl rfl) (dvl w ns)) (Qff (Q6 rfl rfl (dv0 w ns))) (eqp _ _))))).trans (Yw S _)
theorem Qdy (h:J3 [some v] S=.rt (.bl false) S):Jd [v] S=.ok (.bl false) S/\Qk [v] S=.ok (.bl false) S:=by
 have t:Q9 [v] S=.ok (.bl false) S:=(Zd (m:=J3) (nl:=1) (ps:=[v]) h).trans (Yw S false);exact ⟨(Zd (m:=Yz) (nl:=1) (ps:=[v]) (Wj (Qbv (Qd (n:=1) (Q2 rfl rfl) rfl t)))).trans (Yw S false),(Zd (m:=Jg) (nl:=1) (ps:=[v]) (Wj (Qbv (Qd (n:=1) (Q2 rfl rfl) rfl t)))).trans (Yw S false)⟩
theorem nd1 (h1:Jd [v] S=.ok (.bl false) S) (h2:Qk [v] S=.ok (.bl false) S):Qm [T,LV,v] S=.exc ⟨"NoDeed",none⟩ S:=
 xu (m:=Qy) (nl:=3) (ps:=[T,LV,v]) (Yu (Qp (Qd (n:=1) (Q2 rfl rfl) rfl h1)) (Xm (qq (Qp (Qd (n:=1) (Q2 rfl rfl) rfl h2))) rfl))
theorem nd2 (h1:Jd [v] S=.ok (.bl true) S) (h2:Qn [T,v] S=.exc ⟨"NoHouse",none⟩ S):Qm [T,LV,v] S=.exc ⟨"NoHouse",none⟩ S:=
 xu (m:=Qy) (nl:=3) (ps:=[T,LV,v]) (Xm (Qp (Qd (n:=1) (Q2 rfl rfl) rfl h1)) (Qjs (Q8i (n:=2) (Q2 rfl (Q2 rfl rfl)) rfl h2)))
theorem nd3 (h1:Jd [v] S=.ok (.bl false) S) (h2:Qk [v] S=.ok (.bl true) S) {a:PV} (B:oIx S v (.int (-1))=.ok a S) (q:Ze [T,a] S=.ok (.bl false) S):Qm [T,LV,v] S=.exc ⟨"NoHouse",none⟩ S:=
 xu (m:=Qy) (nl:=3) (ps:=[T,LV,v]) (Yu (Qp (Qd (n:=1) (Q2 rfl rfl) rfl h1)) (Yu (qq (Qp (Qd (n:=1) (Q2 rfl rfl) rfl h2))) (Xm (qq (Qp (Qd (n:=2) (Q2 rfl (Q2 (Q6 rfl rfl B) rfl)) rfl q))) rfl)))
theorem nd4 {l:Int} {h len:Int} (B:Ze [T,.int h] S=.ok (.bl true) S) (I:Zt S [LV]=.ok (.int len) S) (G:¬ (0<=l/\l < len)):Qm [T,LV,DW "come" [l,h]] S=.exc ⟨"NoLetter",none⟩ S:=by
 have h1:Jd [DW "come" [l,h]] S=.ok (.bl false) S:=Qk1 (by simp) (show pDi "come"≠some (((2:Nat):Int) + 1) by decide +kernel);have h2:Qk [DW "come" [l,h]] S=.ok (.bl true) S:=by
  rw [Q4d (by simp)];exact congrArg (fun b=>Res.ok (PV.bl b) S) (show decide (pOi "come" = some (((2:Nat):Int) + 1))=true by decide +kernel)
 have ch:(xh (oI fun a b=>.bl (decide (a<=b))) oLt (mC (.int 0)) (mOp oIx (Q3 2) (mC (.int 1))) (Qw Zt (Q0 (Q3 1) Q4))) [some T,some LV,some (DW "come" [l,h])] S=.ok (.bl false) S:=by
  have a1:oIx S (DW "come" [l,h]) (.int 1)=.ok (.int l) S:=rfl;generalize DW "come" [l,h]=D at *
  by_cases q:0<=l
  ·have q2:¬ l < len:=fun z=>G ⟨q,z⟩
   simp -implicitDefEqProofs [a1,q,I,q2]
  ·simp -implicitDefEqProofs [a1,q]
 exact xu (m:=Qy) (nl:=3) (ps:=[T,LV,DW "come" [l,h]]) (Yu (Qp (Qd (n:=1) (Q2 rfl rfl) rfl h1)) (Yu (qq (Qp (Qd (n:=1) (Q2 rfl rfl) rfl h2))) (Yu (qq (Qp (Qd (n:=2) (Q2 rfl (Q2 (Q6 rfl rfl rfl) rfl)) rfl B))) (Xm (Q6t (Qp (Q6 (Q6 rfl rfl rfl) rfl (Q01 S _))) (qq (Qp ch))) rfl))))
theorem Qz8 {tb:Tab} (B:tb.length=n) {hs:List Int} (hl:hs.length<=100) (q:oSl S v (some 1) (some (-1))=.ok (.tup (hs.map .int)) S) (J:(hs.all fun h=>decide (0<=h) && decide (h < (n:Int)))=false):Qn [Q5 tb,v] S=.exc ⟨"NoHouse",none⟩ S:=by
 have I:=fun h:Int=>Vk (V:=Q5 tb) (n:=n) (st:=S) (by simp [Q5,B]) h
 have G:Jf (Qg 0) Zg J5 [] [none,some (Q5 tb)] (hs.map .int) S=.ok ((hs.map fun h=>decide (0<=h) && decide (h < (n:Int))).map .bl) S:=by
  rw [L5];exact Yf _ _ (by simp) fun h _=>⟨_,rfl,Qd (n:=2) (Q2 rfl (Q2 rfl rfl)) rfl (I h)⟩
 have al:xx (fun ns=>.bl (ns.all id)) S [.lst ((hs.map fun h=>decide (0<=h) && decide (h < (n:Int))).map .bl)]=.ok (.bl false) S:=by
  rw [Q0q,List.all_map];exact congrArg (fun b=>Res.ok (PV.bl b) S) J
 have s2:mSl (Q3 1) (Wm (mC (.int 1))) (Wm (xg (mC (.int 1)))) [some (Q5 tb),some v,none] S=.ok (.tup (hs.map .int)) S:=q;exact xu (m:=Jt) (nl:=3) (ps:=[Q5 tb,v]) (Qa (Qq s2) (Qdi (Xm (qq (Qp (W9 (Q2 (zz (Ub (Q4x rfl rfl (by rw [O2]; omega)) G)) rfl) al))) rfl)))
theorem Qwt {tb:Tab} (q:tb.length=n) (J:0<=a/\a < n) (k:Int):Qn [Q5 tb,DW "lend" [a,a,k]] S=.exc ⟨"NoHouse",none⟩ S:=by
 have I:=fun h:Int=>Vk (V:=Q5 tb) (n:=n) (st:=S) (by simp [Q5,q]) h
 have G:(decide ((0:Int)<=a) && decide (a < (n:Int)))=true:=by simp; omega
 have B:Jf (Qg 0) Zg J5 [] [none,some (Q5 tb)] ([a,a].map .int) S=.ok ([a,a].map fun h=>.bl (decide (0<=h) && decide (h < (n:Int)))) S:=Yf _ _ (by simp) fun h _=>⟨_,rfl,Qd (n:=2) (Q2 rfl (Q2 rfl rfl)) rfl (I h)⟩
 have al:xx (fun ns=>.bl (ns.all id)) S [.lst ([a,a].map fun h=>.bl (decide (0<=h) && decide (h < (n:Int))))]=.ok (.bl true) S:=by
  show xx (fun ns=>.bl (ns.all id)) S [.lst [.bl _,.bl _]]=_
  rw [G]; exact Q0q _ S [true,true]
 exact xu (m:=Jt) (nl:=3) (ps:=[Q5 tb,DW "lend" [a,a,k]]) (Qa (Qq (v:=.tup [.int a,.int a]) rfl) (Qa (Yu (qq (Qp (W9 (Q2 (zz (Ub (Q4x (p:=.tup [.int a,.int a]) rfl rfl (by simp)) B)) rfl) al))) rfl) (Xm (Q6t (Qp (Q6 (Q6 rfl rfl rfl) rfl (Q01 S _))) (Qp (Q6 (Q6 rfl rfl rfl) (Q6 rfl rfl rfl) (Q3i S rfl)))) rfl)))
end
def Rf (n:Nat) (le:Nat) (v:PV) (cls:Str):Prop:=∀ (tb:Tab) (S:Q1) (LV:PV),tb.length=n->Zt S [LV]=.ok (.int le) S->Qm [Q5 tb,LV,v] S=.exc ⟨cls,none⟩ S
theorem Rf.dv {le:Nat} {w:Str} (hl:ns.length<=100) (h1:pDi w≠some ((ns.length:Int) + 1)) (h2:pOi w≠some ((ns.length:Int) + 1)):Rf n le (DW w ns) "NoDeed" := fun tb S LV _ _=>nd1 (Qk1 hl h1) (by rw [Q4d hl,bP h2])
theorem Rf.low {le:Nat} {w:Str} (hl:ns.length<=100) (h1:pDi w=some ((ns.length:Int) + 1)) (h2:pOi w≠some ((ns.length:Int) + 1)) {k:Int} (q:∀ S,oIx S (DW w ns) (.int (-1))=.ok (.int k) S) (k0:¬ 1<=k):Rf n le (DW w ns) "NoDeed" := fun tb S LV _ _=>nd1 (by rw [Qk0 hl h1 (q S),bP k0]) (by rw [Q4d hl,bP h2])
theorem Rf.txt {le:Nat} (h:∀ S,J3 [some v] S=.rt (.bl false) S):Rf n le v "NoDeed" := fun tb S LV _ _=>nd1 (Qdy (h S)).1 (Qdy (h S)).2
variable {far:Int}
section
variable {le:Nat}
def whB:PV->Bool
 | .int _=>true
 | _=>false
theorem Qr4 (S:Q1) (x:Str):Zr [.str x] S=.ok (.bl false) S:=by simp -implicitDefEqProofs [Zr,Qh,Xf,isI,tyN]
theorem Qv3 (S:Q1) (x:Bool):Zr [.bl x] S=.ok (.bl false) S:=by simp -implicitDefEqProofs [Zr,Qh,Xf,isI,tyN]
theorem Qr5 (S:Q1):Zr [.non] S=.ok (.bl false) S:=by simp -implicitDefEqProofs [Zr,Qh,Xf,isI,tyN]
theorem Qdd (w:Str) (hl:ps.length<=100) (hs:∀ p∈ps,(∃ k,p=.int k)\/(∃ x,p=.str x)\/(∃ b,p=.bl b)\/p=.non) (J:ps.all whB=false) (S:Q1):J3 [some (.tup (.str w :: ps))] S=.rt (.bl false) S:=by
 have G:cut (PV.str w :: ps) (some 1) none=ps:=qz _ 1;have I:Jf (Qg 0) Zg Jw [] (Zc [none] [some (.tup (.str w :: ps))]) ps S=.ok ((ps.map whB).map .bl) S:=by
  have:=Yf (ga:=Qg 0) (me:=Jw) (w:=[]) (Γ0:=Zc [none] [some (.tup (.str w :: ps))]) (st:=S) (fun p:PV=>p) (fun p=>.bl (whB p)) (by simp) (ys:=ps) fun p hp=>⟨_,rfl,?_⟩
  ·rw [List.map_id'] at this;rw [L5];exact this
  ·rcases hs p hp with ⟨k,rfl⟩ | ⟨x,rfl⟩ | ⟨b,rfl⟩ | rfl
   ·exact Qd (n:=1) (Q2 rfl rfl) rfl (Kw k S)
   ·exact Qd (n:=1) (Q2 rfl rfl) rfl (Qr4 S x)
   ·exact Qd (n:=1) (Q2 rfl rfl) rfl (Qv3 S b)
   ·exact Qd (n:=1) (Q2 rfl rfl) rfl (Qr5 S)
 have B:(ps.map whB).all id=false:=by rw [List.all_map]; exact J
 have a0:atI (PV.str w :: ps) 0=some (.str w):=Sm.atI_get (show (PV.str w :: ps)[0]?=some (.str w) from rfl);have i1:isI "tuple" (.tup (.str w :: ps))=true:=rfl;have i2:isI "str" (.str w)=true:=rfl;have hz:¬ ((ps.length:Int) + 1=0):=by omega
 have q:ps.length<=1000000:=by omega
 generalize ps.map whB=bs at *;simp -implicitDefEqProofs [J3,i1,i2,a0,G,I,B,Ju,q,hz,-F5]
def Qbr (far:Int):List PV:=[DW "give" [0,1],DW "make" [0],DW "make" [0,1,1],DW "make" [0,0],DW "make" [far,-1],DW "use" [0,0],.tup [.str "use",.str "0",.int 1],.tup [.str "use",.int 0,.bl true],DW "lend" [0,0,0],DW "lend" [far,far,-5],DW "lend" [0,1],DW "keep" [],DW "keep" [0,0],.tup [.str "fall",.non],DW "send" [],DW "come" [0],.tup [.str "come",.str "0",.int 0],.tup [],DW "" []]
def Qau (n le:Nat) (far:Int):List PV:=[DW "make" [far,1],DW "use" [far,100000000000000000000],DW "lend" [0,far,100000000000000000000],DW "lend" [far,0,1],DW "lend" [far,far,1],DW "lend" [n - 1,n - 1,100000000000000000000],DW "keep" [far],DW "fall" [far],DW "send" [far],DW "come" [le + 2,far],DW "come" [-1,far]]
def Q9e (n le:Nat):List PV:=[DW "come" [le,0],DW "come" [le + 7,n - 1],DW "come" [-1,0],DW "come" [100000000000000000000000000000,0]]
theorem Quh:∀ v∈Qbr far,Rf n le v "NoDeed" := by
 intro v q;unfold Qbr at q;simp only [D4,F6,or_false] at q;rcases q with rfl | rfl | rfl | rfl | rfl | rfl | rfl | rfl | rfl | rfl | rfl | rfl | rfl | rfl | rfl | rfl | rfl | rfl | rfl
 ·exact Rf.dv (by simp) (by decide +kernel) (by decide +kernel)
 ·exact Rf.dv (by simp) (by decide +kernel) (by decide +kernel)
 ·exact Rf.dv (by simp) (by decide +kernel) (by decide +kernel)
 ·exact Rf.low (by simp) (by decide +kernel) (by decide +kernel) (fun S=>rfl) (by decide)
 ·exact Rf.low (by simp) (show pDi "make" = some (((2:Nat):Int) + 1) by decide +kernel) (show pOi "make"≠some (((2:Nat):Int) + 1) by decide +kernel) (k:=-1) (fun S=>rfl) (by decide)
 ·exact Rf.low (by simp) (by decide +kernel) (by decide +kernel) (fun S=>rfl) (by decide)
 ·exact Rf.txt (Qdd _ (by simp) (by simp) rfl)
 ·exact Rf.txt (Qdd _ (by simp) (by simp) rfl)
 ·exact Rf.low (by simp) (by decide +kernel) (by decide +kernel) (fun S=>rfl) (by decide)
 ·exact Rf.low (by simp) (show pDi "lend" = some (((3:Nat):Int) + 1) by decide +kernel) (show pOi "lend"≠some (((3:Nat):Int) + 1) by decide +kernel) (k:=-5) (fun S=>rfl) (by decide)
 ·exact Rf.dv (by simp) (by decide +kernel) (by decide +kernel)
 ·exact Rf.dv (by simp) (by decide +kernel) (by decide +kernel)
 ·exact Rf.dv (by simp) (by decide +kernel) (by decide +kernel)
 ·exact Rf.txt (Qdd _ (by simp) (by simp) rfl)
 ·exact Rf.dv (by simp) (by decide +kernel) (by decide +kernel)
 ·exact Rf.dv (by simp) (by decide +kernel) (by decide +kernel)
 ·exact Rf.txt (Qdd _ (by simp) (by simp) rfl)
 ·exact Rf.txt fun S=>rfl
 ·exact Rf.dv (by simp) (by decide +kernel) (by decide +kernel)
theorem Qqz (q:¬ (0<=far/\far < n)):(decide ((0:Int)<=far) && decide (far < (n:Int)))=false:=by
 rw [Bool.and_eq_false_iff,decide_eq_false_iff_not,decide_eq_false_iff_not]; omega
theorem Rf.hs {w:Str} {a b:List Int} {ns:List Int} {k:Int} (hl:ns.length<=100) (h1:pDi w=some ((ns.length:Int) + 1)) (I:∀ S,oIx S (DW w ns) (.int (-1))=.ok (.int k) S) (k0:1<=k) {hs:List Int} (q:hs.length<=100) (B:∀ S,oSl S (DW w ns) (some 1) (some (-1))=.ok (.tup (hs.map .int)) S) (J:(hs.all fun h=>decide (0<=h) && decide (h < (n:Int)))=false):Rf n le (DW w ns) "NoHouse" := fun tb S LV G _=>nd2 (by rw [Qk0 hl h1 (I S),bQ k0]) (Qz8 G q (B S) J)
theorem Rf.ot {w:Str} (q:¬ (0<=far/\far < n)) (hl:ns.length<=100) (h1:pDi w≠some ((ns.length:Int) + 1)) (h2:pOi w=some ((ns.length:Int) + 1)) (B:∀ S,oIx S (DW w ns) (.int (-1))=.ok (.int far) S):Rf n le (DW w ns) "NoHouse" := fun tb S LV G _=>nd3 (Qk1 hl h1) (by rw [Q4d hl,bQ h2]) (B S) (by
 have:=Vk (V:=Q5 tb) (n:=n) (st:=S) (by simp [Q5,G]) far;rw [Qqz q] at this;exact this)
theorem Qtd (n1:1<=n) (q:¬ (0<=far/\far < n)):∀ v∈Qau n le far,Rf n le v "NoHouse" := by
 intro v B;have ff:=Qqz q;unfold Qau at B;simp only [D4,F6,or_false] at B;rcases B with rfl | rfl | rfl | rfl | rfl | rfl | rfl | rfl | rfl | rfl | rfl
 ·exact Rf.hs (hs:=[far]) (by simp) (show pDi "make" = some (((2:Nat):Int) + 1) by decide +kernel) (k:=1) (fun S=>rfl) (by decide) (by simp) (fun S=>rfl) (by simp [ff,-Bool.and_eq_false_imp]) (a:=[]) (b:=[])
 ·exact Rf.hs (hs:=[far]) (by simp) (show pDi "use" = some (((2:Nat):Int) + 1) by decide +kernel) (k:=100000000000000000000) (fun S=>rfl) (by decide) (by simp) (fun S=>rfl) (by simp [ff,-Bool.and_eq_false_imp]) (a:=[]) (b:=[])
 ·exact Rf.hs (hs:=[0,far]) (by simp) (show pDi "lend" = some (((3:Nat):Int) + 1) by decide +kernel) (k:=100000000000000000000) (fun S=>rfl) (by decide) (by simp) (fun S=>rfl) (by simp only [List.all_cons,ff,Bool.false_and,Bool.and_false]) (a:=[]) (b:=[])
 ·exact Rf.hs (hs:=[far,0]) (by simp) (show pDi "lend" = some (((3:Nat):Int) + 1) by decide +kernel) (k:=1) (fun S=>rfl) (by decide) (by simp) (fun S=>rfl) (by simp only [List.all_cons,ff,Bool.false_and,Bool.and_false]) (a:=[]) (b:=[])
 ·exact Rf.hs (hs:=[far,far]) (by simp) (show pDi "lend" = some (((3:Nat):Int) + 1) by decide +kernel) (k:=1) (fun S=>rfl) (by decide) (by simp) (fun S=>rfl) (by simp only [List.all_cons,ff,Bool.false_and,Bool.and_false]) (a:=[]) (b:=[])
 ·exact fun tb S LV G _=>nd2 (by rw [Qk0 (by simp) (show pDi "lend" = some (((3:Nat):Int) + 1) by decide +kernel) (k:=100000000000000000000) rfl]; rfl) (Qwt G (by omega) _)
 ·exact Rf.ot q (by simp) (show pDi "keep"≠some (((1:Nat):Int) + 1) by decide +kernel) (show pOi "keep" = some (((1:Nat):Int) + 1) by decide +kernel) (fun S=>rfl)
 ·exact Rf.ot q (by simp) (show pDi "fall"≠some (((1:Nat):Int) + 1) by decide +kernel) (show pOi "fall" = some (((1:Nat):Int) + 1) by decide +kernel) (fun S=>rfl)
 ·exact Rf.ot q (by simp) (show pDi "send"≠some (((1:Nat):Int) + 1) by decide +kernel) (show pOi "send" = some (((1:Nat):Int) + 1) by decide +kernel) (fun S=>rfl)
 ·exact Rf.ot q (by simp) (show pDi "come"≠some (((2:Nat):Int) + 1) by decide +kernel) (show pOi "come" = some (((2:Nat):Int) + 1) by decide +kernel) (fun S=>rfl)
 ·exact Rf.ot q (by simp) (show pDi "come"≠some (((2:Nat):Int) + 1) by decide +kernel) (show pOi "come" = some (((2:Nat):Int) + 1) by decide +kernel) (fun S=>rfl)
theorem Rf.late {l h:Int} (G:0<=h/\h < n) (hl:¬ (0<=l/\l < le)):Rf n le (DW "come" [l,h]) "NoLetter" := fun tb S LV B q=>nd4 (by
 have:=Vk (V:=Q5 tb) (n:=n) (st:=S) (by simp [Q5,B]) h;rw [show (decide ((0:Int)<=h) && decide (h < (n:Int)))=true by simp; omega] at this;exact this) q hl
theorem Qtr (n1:1<=n) (B:le<=1000):∀ v∈Q9e n le,Rf n le v "NoLetter" := by
 intro v q;unfold Q9e at q;simp only [D4,F6,or_false] at q;rcases q with rfl | rfl | rfl | rfl
 ·exact Rf.late (by omega) (by omega)
 ·exact Rf.late (by omega) (by omega)
 ·exact Rf.late (by omega) (by omega)
 ·exact Rf.late (by omega) (by omega)
structure Wg (n le:Nat) (v:PV) (wd:Str):Prop where
 ex:∃ cls,Rf n le v cls/\((cls = "NoDeed" /\ wd = "deed")\/(cls = "NoHouse" /\ wd = "house")\/(cls = "NoLetter" /\ wd = "letter"))
theorem Qpv {st':Q1} (h:st'.length=st.length) (g:Zq dep v=true):fin st v st'=.ok v st':=by
 by_cases q:st <+: st'
 ·have:=q.eq_of_length h.symm;subst this;unfold fin;rw [bN List.prefix_rfl,Q2f g (by decide)]; rfl
 ·unfold fin;rw [bO q]
theorem Qq7 {l:List PV} {x:Nat} (q:x < l.length):oIx S (.lst l) (.int x)=.ok (l.getD x .non) S/\l.getD x .non∈l:=by
 have e:=getD_some q .non;refine ⟨?_,D6 e⟩;rw [Qp1,Sm.atI_get e]; rfl
theorem Q8q (T:Tp S L) (n1:1<=n) (n8:n<=8) (U:le<=1000):∃ (v:PV) (q:Str) (S':Q1),Wg n le v q/\Tp S' L/\Mv L S S'/\Wc [.ref L,.int n,.int le] S=.ok (.tup [v,.str q]) S':=by
 obtain ⟨d,S1,hd,T1,M1,e1⟩:=Y4 T 3 (by decide) (by decide);have G:Q40 S1 (.int 10) (.int 20)=.ok (.int 100000000000000000000) S1:=by simp
 have J:∀ S:Q1,Q40 S (.int 10) (.int 29)=.ok (.int 100000000000000000000000000000) S:=fun S=>by simp
 obtain ⟨far,hf,e2⟩:∃ far:Int,¬ (0<=far/\far < n)/\oIx S1 (.lst [.int n,.int (-1),.int 100000000000000000000000000000]) (.int d)=.ok (.int far) S1:=by
  match d,hd with
  | 0,_=>exact ⟨n,by omega,rfl⟩
  | 1,_=>exact ⟨-1,by omega,rfl⟩
  | 2,_=>exact ⟨100000000000000000000000000000,by omega,rfl⟩
 obtain ⟨w,S2,hw,T2,M2,e3⟩:=Y4 T1 3 (by decide) (by decide);have I:∀ (l:List PV) (q:Str) (cls:Str),((cls = "NoDeed" /\ q = "deed")\/(cls = "NoHouse" /\ q = "house")\/(cls = "NoLetter" /\ q = "letter"))->1<=l.length->l.length < 100->(∀ v∈l,Rf n le v cls)->(∀ v∈l,Zq dep (.tup [v,.str q])=true)->oIx S2 (.lst [.lst (Qbr far),.lst (Qau n le far),.lst (Q9e n le)]) (.int w)=.ok (.lst l) S2->(∀ S:Q1,oIx S (.lst [.str "deed",.str "house",.str "letter"]) (.int w)=.ok (.str q) S)->∃ (v:PV) (q:Str) (S':Q1),Wg n le v q/\Tp S' L/\Mv L S S'/\Wc [.ref L,.int n,.int le] S=.ok (.tup [v,.str q]) S':=fun l q cls hc l1 l2 hr hg el ew=>by
  obtain ⟨x,O,hx,T3,Z,e4⟩:=Y4 T2 l.length l1 l2;obtain ⟨e5,Y⟩:=Qq7 (S:=O) hx;refine ⟨l.getD x .non,q,O,⟨cls,hr _ Y,hc⟩,T3,(M1.trans M2).trans Z,?_⟩;have st:Xs [some (.ref L),some (.int n),some (.int le),none,none,none,none,none,none] S=.rt (.tup [l.getD x .non,.str q]) O:=by
   refine Qa (Qq (Q6 (j4 (hl:=by simp) (Q2 rfl (Q2 rfl (Q2 (Q6 rfl rfl (J S)) rfl)))) (Qd (n:=2) (Q2 rfl (Q2 rfl rfl)) rfl e1) e2)) ?_;refine Qa (Qq rfl) (Qa (Qq rfl) (Qa (Qq (v:=.lst (Qbr far)) rfl) ?_));refine Qa (Qq (j4 (hl:=by simp) (Q2 rfl (Q2 (Vg (Q2 rfl (Q2 rfl (Q2 (Q6 rfl rfl G) rfl))) (by simp)) (Q2 (Vg (Q2 rfl (Q2 rfl (Q2 rfl (Q2 (Q6 rfl rfl G) rfl)))) (by simp)) (Q2 rfl rfl)))))) (Qa (Qq rfl) ?_);refine Qa (Qq (Q6 rfl (j4 (hl:=by simp) (Q2 (Vg (Q2 rfl (Q2 rfl (Q2 rfl (Q2 (Q6 rfl rfl G) rfl)))) (by simp)) (Q2 rfl (Q2 rfl (Q2 rfl rfl))))) rfl)) (Qa (Qq (v:=.lst (Qau n le far)) rfl) ?_);refine Qa (Qq (v:=.lst (Q9e n le)) (j4 (hl:=by simp [Q9e]) (Q2 rfl (Q2 rfl (Q2 rfl (Q2 (Vg (Q2 rfl (Q2 (Q6 rfl rfl (J S1)) (Q2 rfl rfl))) (by simp)) rfl)))))) ?_;refine Qa (Qq (Qd (n:=2) (Q2 rfl (Q2 rfl rfl)) rfl e3)) ?_;refine Qa (Qq (Q6 (j4 (hl:=by simp) (Q2 rfl (Q2 rfl (Q2 rfl rfl)))) rfl el)) ?_
   exact Wj (Vg (Q2 (Q6 rfl (Qd (n:=2) (Q2 rfl (Q2 (W9 (Q2 rfl rfl) (Qbp S2 l)) rfl)) rfl e4) e5) (Q2 (Q6 (j4 (hl:=by simp) (Q2 rfl (Q2 rfl (Q2 rfl rfl)))) rfl (ew O)) rfl)) (by simp))
  exact (Zd (m:=Xs) (nl:=9) (ps:=[.ref L,.int n,.int le]) st).trans (Qpv ((M1.trans M2).trans Z).len (hg _ Y))
 match w,hw with
 | 0,_=>exact I (Qbr far) "deed" "NoDeed" (.inl ⟨rfl,rfl⟩) (by simp [Qbr]) (by simp [Qbr]) Quh (by intro v B; unfold Qbr at B; simp only [D4,F6,or_false] at B; rcases B with rfl | rfl | rfl | rfl | rfl | rfl | rfl | rfl | rfl | rfl | rfl | rfl | rfl | rfl | rfl | rfl | rfl | rfl | rfl <;> rfl) rfl (fun _=>rfl)
 | 1,_=>exact I (Qau n le far) "house" "NoHouse" (.inr (.inl ⟨rfl,rfl⟩)) (by simp [Qau]) (by simp [Qau]) (Qtd n1 hf) (by intro v B; unfold Qau at B; simp only [D4,F6,or_false] at B; rcases B with rfl | rfl | rfl | rfl | rfl | rfl | rfl | rfl | rfl | rfl | rfl <;> rfl) rfl (fun _=>rfl)
 | 2,_=>exact I (Q9e n le) "letter" "NoLetter" (.inr (.inr ⟨rfl,rfl⟩)) (by simp [Q9e]) (by simp [Q9e]) (Qtr n1 U) (by intro v B; unfold Q9e at B; simp only [D4,F6,or_false] at B; rcases B with rfl | rfl | rfl | rfl <;> rfl) rfl (fun _=>rfl)
end
theorem Qem {m:MS} {x:Exc} (h:m (ps.map some ++ List.replicate (nl - ps.length) none) S=.exc x S'):Y7 m nl ps S=.exc x S':=by unfold Y7; rw [h]
theorem Qyy (q:n<=1000) (h:m Γ S=.ok (.int n) S):Yj (Q0 m Q4) Γ S=.ok (Zh 0 n,[]) S:=by
 rw [Ui,Q2 h (show Q4 Γ S=.ok [] S from rfl),Qs];show (if -(lim:Int)<=(n:Int)/\(n:Int)<=lim then _ else _)=_;rw [bN (by rw [Ju]; omega),Int.toNat_natCast]
theorem Qjr (g:α->PV) {xs:List α} {v:PV} {rest:List PV} {e:Exc} (I:List α->Gam->Q1->Prop) {ga:GA} {body:MS} (Q:Q1->Prop)
  (h:∀ pre x B Γ st,xs=pre ++ x :: B->I pre Γ st->∃ Γ1,ga (g x) Γ=some Γ1/\∃ J G,body Γ1 st=.nx J G/\I (pre ++ [x]) J G) (Y:∀ Γ st,I xs Γ st->∃ Γ1,ga v Γ=some Γ1/\∃ G,body Γ1 st=.exc e G/\Q G) {Γ:Gam} {st:Q1} (h0:I [] Γ st):∃ st',Kx ga body [] (xs.map g ++ v :: rest) Γ st=.exc e st'/\Q st':=by
 have O:∀ (B pre:List α) (Γ:Gam) (st:Q1),xs=pre ++ B->I pre Γ st->∃ st',Kx ga body [] (B.map g ++ v :: rest) Γ st=.exc e st'/\Q st':=by
  intro B
  induction B with
  | nil=>
   intro pre Γ st e i;rw [G6] at e;subst e;obtain ⟨Γ1,h1,G,e2,q⟩:=Y Γ st i;refine ⟨G,?_,q⟩;rw [List.map_nil,List.nil_append,Kx,bN (by simp),h1];simp only [e2]
  | cons x B U=>
   intro pre Γ st e i;obtain ⟨Γ1,h1,J,G,e2,i2⟩:=h pre x B Γ st e i;obtain ⟨st',e3,q⟩:=U (pre ++ [x]) J G (by rw [e]; simp) i2;refine ⟨st',?_,q⟩;rw [F2,List.cons_append,Kx,bN (by simp),h1];simp only [e2];exact e3
 exact O xs [] Γ st rfl h0
theorem Qah {C:aA} {tb:Tab} (w:Wt' n tb) (c:Ca n tb) {S:Q1} {xs:List Dx} {rest:List PV} {cls:Str} (hl:xs.length<=900) (a3:rest.length<=900) (ok:OkL n (s0 n tb) xs) (hr:Rf n (U3 n (s0 n tb) xs).le.length v cls) :
  ∃ S',X8 C [Q5 tb,.lst (xs.map Dx.V ++ v :: rest)] S=.exc ⟨cls,none⟩ S'/\∀ t,t < S.length->S'[t]?=S[t]?:=by
 have h8:=w.n8;have e1:=jt w c S;obtain ⟨DV,J⟩:∃ DV,PV.lst (xs.map Dx.V ++ v :: rest)=DV:=⟨_,rfl⟩;rw [J];have O:=Q88 (C:=C) w c S [some (Q5 tb),some DV,none,none,none,none] rfl;have I:Zt S [Q5 tb]=.ok (.int n) S:=by simp [Q5,w.len]
 obtain ⟨S1,B⟩:∃ S1,S ++ h0 C n tb=S1:=⟨_,rfl⟩;rw [B] at O;have l1:S1.length=S.length + n:=by rw [<- B,O6,Qjh]
 obtain ⟨S2,q⟩:∃ S2,S1 ++ [Cell.lst []] ++ [Cell.lst []]=S2:=⟨_,rfl⟩;have l2:S2.length=S.length + n + 2:=by rw [<- q,O6,O6,l1]; rfl
 have P0:PI C n tb S [] S2:=by
  refine ⟨⟨fun i hi=>?_⟩,?_,?_,fun t ht=>?_,l2⟩
  ·rw [<- q,F8,O3 (by omega),<- B,D0 (by omega),Nat.add_sub_cancel_left,Qqv C tb hi];show _=some (Cell.obj C (hsF i ((List.replicate n tb).getD i []) ((List.replicate n tb).getD i [])));rw [Q20 hi]
  ·rw [<- q,F8,D0 (by omega),show S.length + n - S1.length=0 by omega]; rfl
  ·rw [<- q,F8,D0 (by omega),show S.length + n + 1 - S1.length=1 by omega]; rfl
  ·rw [<- q,F8,O3 (by omega),<- B,O3 ht]
 obtain ⟨Z,ef,old⟩:=Qjr (e:=⟨cls,none⟩) (v:=v) (rest:=rest) Dx.V (xs:=xs) (fun pre Γ st=>(∃ d,Γ=plG tb DV S.length n d)/\PI C n tb S pre st) (ga:=Qg 5) (body:=j6 C) (fun st=>∀ t,t < S.length->st[t]?=S[t]?)
  (fun pre x U Γ st Y ⟨⟨d,G⟩,P⟩=>by
   subst G;obtain ⟨a2,e,P2⟩:=Qhb w (by rw [<- Y]; omega) (by rw [<- Y]; exact ok) P DV;exact ⟨_,rfl,_,_,e,⟨_,rfl⟩,P2⟩)
  (fun Γ st ⟨⟨d,G⟩,P⟩=>by
   subst G;have ll:Zt st [.ref (S.length + n)]=.ok (.int (U3 n (s0 n tb) xs).le.length) st:=by
    have:=ListAt.len (st:=st) (V:=.ref (S.length + n)) (.inr (.inr ⟨_,rfl,P.le⟩));rw [O2] at this;exact this
   exact ⟨_,rfl,st,Qdi (Qjs (Q8i (n:=3) (Q2 rfl (Q2 rfl (Q2 rfl rfl))) rfl (hr tb st (.ref (S.length + n)) w.len ll))),P.old⟩)
  (Γ:=plG tb DV S.length n none) (st:=S2) ⟨⟨_,rfl⟩,P0⟩
 refine ⟨Z,Qem (m:=Q0e C) (nl:=6) (ps:=[Q5 tb,DV]) ?_,old⟩;refine Qa (xk (Qd (n:=1) (Q2 rfl rfl) rfl e1)) ?_;refine Qa (Γ1:=[some (Q5 tb),some DV,some (hsV S.length n),none,none,none]) (Qq (zz (Ub (Qyy (by omega) (W9 (Q2 rfl rfl) I)) O))) ?_;refine Qa (Γ1:=[some (Q5 tb),some DV,some (hsV S.length n),some (.ref (S.length + n)),none,none]) (S1:=S1 ++ [.lst []]) ((Qq (qa (ps:=[]) (S1:=S1) rfl)).trans (by rw [l1]; rfl)) ?_;refine Qa (Γ1:=plG tb DV S.length n none) (S1:=S2) ((Qq (qa (ps:=[]) (S1:=S1 ++ [.lst []]) rfl)).trans (by rw [O6,l1,q]; rfl)) ?_;exact Qdi (Q1t (Q4x (p:=DV) rfl (by rw [<- J]; rfl) (by rw [O6,O2,D7]; omega)) ef)
theorem Qdz (S:Q1) (a:Str):oNe S (.str a) (.str a)=.ok (.bl false) S:=by simp
def Q6c:Dx->Bool
 | .sd _=>true
 | _=>false
theorem Qj9 (n:Nat):∀ (xs:List Dx) (s:RS),(U3 n s xs).le.length=s.le.length + (xs.filter Q6c).length
 | [],s=>by simp [U3]
 | x :: xs,s=>by
  have q:=Qj9 n xs (Zs n s x);simp only [U3];rw [q];cases x with
  | own d=>
   have:(Zs n s (.own d)).le=s.le:=by
    show (if d.fits (s.now.getD d.h [])=true then (⟨s.now.set d.h (d.put n (s.now.getD d.h [])),s.last,s.le⟩:RS) else s).le=_
    split <;> rfl
   rw [this]; simp [Q6c]
  | sd i=>simp [Zs,Q6c,List.filter_cons]; omega
  | kp i=>simp [Zs,Q6c]
  | fl i=>simp [Zs,Q6c]
  | cm l i=>simp [Zs,Q6c]
theorem Qmx (C:aA) (x:Dx) (S:Q1):Q48 C [some x.V] S=.ok (Q6c x) S:=by
 cases x with
 | own d=>cases d <;> exact Qp (Q6 (Q6 rfl rfl rfl) rfl (Um S (by decide)))
 | sd i=>exact Qp (Q6 (Q6 rfl rfl rfl) rfl (Q01 S _))
 | kp i=>exact Qp (Q6 (Q6 rfl rfl rfl) rfl (Um S (by decide)))
 | fl i=>exact Qp (Q6 (Q6 rfl rfl rfl) rfl (Um S (by decide)))
 | cm l i=>exact Qp (Q6 (Q6 rfl rfl rfl) rfl (Um S (by decide)))
theorem Qbm {D:PV} {cls q:Str} (e:X8 C [T,D] S=.exc ⟨cls,none⟩ S') (h:(cls = "NoDeed" /\ q = "deed")\/(cls = "NoHouse" /\ q = "house")\/(cls = "NoLetter" /\ q = "letter")):J1 C [T,D] S=.ok (.str q) S':=by
 unfold J1;rw [e];rcases h with ⟨rfl,rfl⟩ | ⟨rfl,rfl⟩ | ⟨rfl,rfl⟩
 ·exact bN rfl
 ·exact (bO (by decide +kernel)).trans (bN rfl)
 ·exact (bO (by decide +kernel)).trans ((bO (by decide +kernel)).trans (bN rfl))
theorem Qk5 {D:PV} (e:X8 C [T,D] S=.exc ⟨"NoTable",none⟩ S'):J1 C [T,D] S=.ok (.str "table") S':=by
 unfold J1;rw [e];exact (bO (by decide +kernel)).trans ((bO (by decide +kernel)).trans ((bO (by decide +kernel)).trans (bN rfl)))
theorem Qmm {tb:Tab} (w:Wt' n tb) {k:Int} (k0:0<=k) (B:Qi tb 0 < k):Wt' n (Uh tb 0 n (ent tb 0 n + k))/\Q0n n (Uh tb 0 n (ent tb 0 n + k))=false:=by
 have n1:=w.n1;have q:=w.ent_nn (show 0 < n by omega) (O8 n);refine ⟨w.set0 (by omega) (by omega),?_⟩;unfold Q0n;rw [Bool.and_eq_false_iff]
 left
 rw [List.all_eq_false];refine ⟨0,E6.mpr (by omega),?_⟩;have r:=Q1g w.sz (show 0 < n by omega) (O8 n) k (h:=0) (by omega);rw [bO (by omega),bN rfl,bO (by omega)] at r;simp only [decide_eq_true_eq];omega
theorem Qwv {tb:Tab} (w:Wt' n tb) (c:Q0n n tb=false) (st:Q1):Je [Q5 tb] st=.exc ⟨"NoTable",none⟩ st:=by
 have h1:=Qeh w st;rw [c] at h1;exact xu (m:=Wn) (nl:=1) (ps:=[Q5 tb]) (Xm (qq (Qp (Qd (n:=1) (Q2 rfl rfl) rfl h1))) rfl)
variable {tb:Tab} {xs:List Dx}
theorem Q1y {V:PV} (h:ListAt S V ys) {m1 m2:ME} {d:Nat} (h1:m1 Γ S=.ok V S) (h2:m2 Γ S=.ok (.int d) S):mSl m1 Ym (Wm m2) Γ S=.ok (.lst (ys.take d)) S:=by
 rw [Qj3,h1,Qs,show Ym Γ S=.ok none S from rfl,Qs,show Wm m2 Γ S=.ok (some (d:Int)) S by unfold Wm; rw [h2]; rfl,Qs,Lw.ListAt.sl h,zp]
theorem Qmk {V:PV} (h:ListAt S V ys) {m1 m2:ME} {d:Nat} (h1:m1 Γ S=.ok V S) (h2:m2 Γ S=.ok (.int d) S):mSl m1 (Wm m2) Ym Γ S=.ok (.lst (ys.drop d)) S:=by
 rw [Qj3,h1,Qs,show Wm m2 Γ S=.ok (some (d:Int)) S by unfold Wm; rw [h2]; rfl,Qs,show Ym Γ S=.ok none S from rfl,Qs,Lw.ListAt.sl h,qz]
theorem Qq9 (S:Q1) {a b:List PV} (h:a.length + b.length<=1000000):Yb S (.lst a) (.lst b)=.ok (.lst (a ++ b)) S:=bN (show _<=lim from h)
theorem Qrb (I0:TbI n 8 tb) (ok:OkL n (s0 n tb) xs) (hx:xs.length<=100) (de:S[4]?=some (.lst (xs.map Dx.V))) (k:Nat) (c4 c5 c7 c8 c9 b5 a9 b0 c0 b7:Option PV):∃ (d7 d8 d9 b4 b3 b1 b8 b9:Option PV) (S':Q1),S'[4]?=some (.lst (xs.map Dx.V))/\Q4p C [some (.fro (ns.map .int)),some (Q5 tb),some (.int n),some (.ref 4),c4,c5,some (.int k),c7,c8,c9,b5,a9,b0,c0,b7] S=.nx [some (.fro (ns.map .int)),some (Q5 tb),some (.int n),some (.ref 4),c4,c5,some (.int k),d7,d8,d9,b4,b3,b1,b8,b9] S':=by
 have w:=I0.w;have c:=I0.c;have n1:=w.n1;have n8:=w.n8;have h4:=(O0.mp de).1;obtain ⟨cc,e1⟩:=Q6s ns k S;obtain ⟨S1,O⟩:∃ S1,S ++ [Cell.lst [.int cc]]=S1:=⟨_,rfl⟩;rw [O] at e1;have T1:Tp S1 S.length:=⟨cc,by rw [<- O]; simp⟩;have Z:S1[4]?=some (.lst (xs.map Dx.V)):=by rw [<- O,O3 h4]; exact de
 have b6:Zt S1 [.ref 4]=.ok (.int xs.length) S1:=by
  have:=ListAt.len (st:=S1) (V:=.ref 4) (.inr (.inr ⟨_,rfl,Z⟩));rw [O2] at this;exact this
 obtain ⟨d,S2,hd,T2,M2,e2⟩:=zu T1 (xs.length + 1) (by omega) (Q9u (D3 (show xs.length + 1 < 1000 by omega) (by decide)));have a8:S2[4]?=some (.lst (xs.map Dx.V)):=by rw [M2.keep 4 (by omega)]; exact Z
 have b2:ListAt S2 (.ref 4) (xs.map Dx.V):=.inr (.inr ⟨_,rfl,a8⟩);obtain ⟨le,a6⟩:∃ le:Nat,((xs.take d).filter Q6c).length=le:=⟨_,rfl⟩;have J:le<=1000:=by
  have:=List.length_filter_le Q6c (xs.take d);rw [List.length_take] at this;omega
 have a7:OkL n (s0 n tb) (xs.take d):=((Q4e n (xs.take d) (xs.drop d) _).mp (by rw [List.take_append_drop]; exact ok)).1;have a5:(U3 n (s0 n tb) (xs.take d)).le.length=le:=by
  rw [Qj9,a6];show 0 + le=le;omega
 have a3:Jf (Qg 0) (Q48 C) (Q9n C) [] [none] ((xs.take d).map Dx.V) S2=.ok (((xs.take d).filter Q6c).map Dx.V) S2:=zq _ _ _ (by simp) fun x _=>⟨_,rfl,Qmx C x S2,fun _=>rfl⟩
 obtain ⟨v,wd,S3,g1,T3,M3,e3⟩:=Q8q T2 n1 n8 J;obtain ⟨v2,c3,Y,g2,T4,M4,e4⟩:=Q8q T3 n1 n8 J;obtain ⟨cls,hr,hc⟩:=g1.ex;have G:Y[4]?=some (.lst (xs.map Dx.V)):=by rw [M4.keep 4 (by omega),M3.keep 4 (by omega)]; exact a8
 have tl:((xs.map Dx.V).take d)=(xs.take d).map Dx.V:=List.map_take.symm;have dl:((xs.map Dx.V).drop d)=(xs.drop d).map Dx.V:=List.map_drop.symm;have lt:(xs.take d).length<=100:=by rw [List.length_take]; omega
 have ld:(xs.drop d).length<=100:=by rw [List.length_drop]; omega
 obtain ⟨S5,p5,o5⟩:=Qah (C:=C) (S:=Y) (rest:=(xs.drop d).map Dx.V) w c (by omega) (by rw [O2]; omega) a7 (by rw [a5]; exact hr);have l4:4 < Y.length:=(O0.mp G).1;have U:S5[4]?=some (.lst (xs.map Dx.V)):=by rw [o5 4 l4]; exact G
 obtain ⟨q,p6,o6⟩:=Qah (C:=C) (S:=S5) (rest:=[v2]) w c (by omega) (by simp) a7 (by rw [a5]; exact hr);have a2:q[4]?=some (.lst (xs.map Dx.V)):=by rw [o6 4 (O0.mp U).1]; exact U
 have er:=xy w.sz (by omega) (show 0 < n by omega) q;obtain ⟨I,a4⟩:∃ I:Int,(if Qi tb 0 > 0 then Qi tb 0 else 0)=I:=⟨_,rfl⟩;have c6:0<=I/\Qi tb 0<=I:=by rw [<- a4]; split <;> omega
 have ea:=j7 w.sz (by omega) (show 0 < n by omega) (O8 n) (1 + I) q;obtain ⟨w',cb⟩:=Qmm w (k:=1 + I) (by omega) (by omega);have B:∀ {S:Q1},S[4]?=some (.lst (xs.map Dx.V))->ListAt S (.ref 4) (xs.map Dx.V):=fun h=>.inr (.inr ⟨_,rfl,h⟩)
 have cx:Q3c q [.int 0,.int (Qi tb 0)]=.ok (.int I) q:=by rw [Q6q,a4]
 have k1:=Qbm p5 hc;have k2:=Qbm p6 hc;have k3:J1 C [Q5 (Uh tb 0 n (ent tb 0 n + (1 + I))),.lst ((xs.take d).map Dx.V ++ [v])] q=.ok (.str "table") q:=Qk5 (Qem (m:=Q0e C) (nl:=6) (ps:=[_,_]) (Qdi (Qjs (Q8i (n:=1) (Q2 rfl rfl) rfl (Qwv w' cb q)))));rw [show ((xs.length + 1:Nat):Int)=(xs.length:Int) + 1 by push_cast; rfl] at e2;have c1:Zt S2 [.lst (((xs.take d).filter Q6c).map Dx.V)]=.ok (.int le) S2:=by rw [Qbp,O2,a6]
 have q1:(xs.map Dx.V).take d ++ [v] ++ (xs.map Dx.V).drop d=(xs.take d).map Dx.V ++ v :: (xs.drop d).map Dx.V:=by rw [tl,dl]; simp
 rw [<- q1] at k1;rw [<- tl] at k2 k3 a3;have lx:(xs.map Dx.V).length<=100:=by rw [O2]; omega
 have c2:((xs.map Dx.V).take d).length<=100:=by rw [List.length_take]; omega
 have d0:((xs.map Dx.V).drop d).length<=100:=by rw [List.length_drop]; omega
 exact ⟨_,_,_,_,_,_,_,_,q,a2,Qa (Qq (Qd (n:=2) (Q2 rfl (Q2 rfl rfl)) rfl e1)) (Qa (Qq (Qd (n:=2) (Q2 rfl (Q2 (Q6 (W9 (Q2 rfl rfl) b6) rfl (Q2k S1 _ _)) rfl)) rfl e2)) (Qa (Qq (W9 (Q2 (zz (Ub (Q4x (Q1y b2 rfl rfl) rfl (by omega)) a3)) rfl) c1)) (Qa (Qd7 (Qd (n:=3) (Q2 rfl (Q2 rfl (Q2 rfl rfl))) rfl e3) rfl) (Qa (Qd7 (Qd (n:=3) (Q2 rfl (Q2 rfl (Q2 rfl rfl))) rfl e4) rfl) (Qa (Yu (Qp (Q6 (Qd (n:=2) (Q2 rfl (Q2 (Q6 (Q6 (Q1y (B G) rfl rfl) (j4 (hl:=by simp) (Q2 rfl rfl)) (Qq9 Y (by simp; omega))) (Qmk (B G) rfl rfl) (Qq9 Y (by rw [O6]; simp; omega))) rfl)) rfl k1) rfl (Qdz S5 _))) rfl) (Qa (Yu (Qp (Q6 (Qd (n:=2) (Q2 rfl (Q2 (Q6 (Q1y (B U) rfl rfl) (j4 (hl:=by simp) (Q2 rfl (Q2 rfl rfl))) (Qq9 S5 (by simp; omega))) rfl)) rfl k2) rfl (Qdz q _))) rfl) (Qa (Qq (Qd (n:=4) (Q2 rfl (Q2 rfl (Q2 rfl (Q2 (Q6 rfl (W9 (Q2 rfl (Q2 (Qd (n:=2) (Q2 rfl (Q2 rfl rfl)) rfl er) rfl)) cx) (Q2k q _ _)) rfl)))) rfl ea)) (Yu (Qp (Q6 (Qd (n:=2) (Q2 rfl (Q2 (Q6 (Q1y (B a2) rfl rfl) (j4 (hl:=by simp) (Q2 rfl rfl)) (Qq9 q (by simp; omega))) rfl)) rfl k3) rfl (Qdz q _))) rfl))))))))⟩
theorem Qph (C:aA):∀ ns:List Int,ns.length<=63->∃ st',Qkv C [.fro (ns.map .int)] []=.ok (.bl true) st':=by
 intro ns b2;obtain ⟨n,tb,hn,I0,e1⟩:=Qh0 ns;have w:=I0.w;obtain ⟨xs,S1,a8,A,e2⟩:=Qd8 I0 ns 5 (by decide);have l6:=A.len;obtain ⟨S2,e3,a7,U,_,_⟩:=Qfb (C:=C) (S:=S1) (DV:=.ref 4) (xs:=xs) (wt:=[(4,.lst (xs.map Dx.V))]) w I0.c (fun st a5=>by
  have q:st[4]?=some (.lst (xs.map Dx.V)):=by rw [a5 4 (by omega)]; exact A.de
  refine ⟨?_,fun x hx=>?_⟩
  ·unfold Ut; simp only [q]
  ·rw [List.mem_singleton.mp hx]; exact q) (by omega) A.ok
 have e4:J1 C [Q5 tb,.ref 4] S1=.ok (.str "") S2:=by
  unfold J1;rw [e3]
 have a6:S2[4]?=some (.lst (xs.map Dx.V)):=by rw [U 4 (by omega)]; exact A.de
 have a4:Zt [] [Q5 tb]=.ok (.int n) []:=by simp [Q5,w.len]
 have a3:Zt S2 [.fro (ns.map .int)]=.ok (.int ns.length) S2:=by rw [Qkc,O2]
 obtain ⟨m,hm,em⟩:∃ m:Nat,m<=30/\(if (if (ns.length:Int) < 30 then (ns.length:Int) else 30) > 14 then (if (ns.length:Int) < 30 then (ns.length:Int) else 30) else 14)=(m:Int):=by
  refine ⟨(if (if (ns.length:Int) < 30 then (ns.length:Int) else 30) > 14 then (if (ns.length:Int) < 30 then (ns.length:Int) else 30) else 14).toNat,?_,?_⟩ <;> split <;> split <;> omega
 obtain ⟨b3,S3,ef,c6,c7,c8,Z,I,B,G,O,J,rfl,_⟩:=Q0m (g:=fun k:Nat=>PV.int ((6:Int) + (k:Int))) (xs:=List.range (m - 6)) (ga:=Qg 6) (body:=Q4p C) (w:=[]) (Γ:=[some (.fro (ns.map .int)),some (Q5 tb),some (.int n),some (.ref 4),some (.ref 5),some (.ref 3),none,none,none,none,none,none,none,none,none]) (st:=S2)
  (fun _ Γ st'=>∃ c6 c7 c8 Z I B G O J,Γ=[some (.fro (ns.map .int)),some (Q5 tb),some (.int n),some (.ref 4),some (.ref 5),some (.ref 3),c6,c7,c8,Z,I,B,G,O,J]/\st'[4]?=some (.lst (xs.map Dx.V))) (fun _ _ _ _=>by simp)
  (fun i x Γ st' _ ⟨c6,c7,c8,Z,I,B,G,O,J,g1,g2⟩=>by
   subst g1;obtain ⟨d7,d8,d9,b1,b0,a9,b4,b5,S',h1,h2⟩:=Qrb (C:=C) (ns:=ns) I0 A.ok (by omega) g2 (6 + x) (some (.ref 5)) (some (.ref 3)) c7 c8 Z I B G O J;rw [show ((6 + x:Nat):Int)=(6:Int) + x by push_cast; rfl] at h2;exact ⟨_,rfl,_,S',h2,_,_,_,_,_,_,_,_,_,rfl,h1⟩)
  ⟨_,_,_,_,_,_,_,_,_,rfl,a6⟩
 rw [<- Qf5] at ef;have a2:xb (Q0 (mC (.int 6)) (Q0 (Qw Q3c (Q0 (mC (.int 14)) (Q0 (Qw Qgq (Q0 (mC (.int 30)) (Q0 (Qw Zt (Q0 (Q3 0) Q4)) Q4))) Q4))) Q4)) [some (.fro (ns.map .int)),some (Q5 tb),some (.int n),some (.ref 4),some (.ref 5),some (.ref 3),none,none,none,none,none,none,none,none,none] S2=.ok (Zh 6 (m - 6),[]) S2:=by
  have ha:(Q0 (mC (.int 6)) (Q0 (Qw Q3c (Q0 (mC (.int 14)) (Q0 (Qw Qgq (Q0 (mC (.int 30)) (Q0 (Qw Zt (Q0 (Q3 0) Q4)) Q4))) Q4))) Q4)) [some (.fro (ns.map .int)),some (Q5 tb),some (.int n),some (.ref 4),some (.ref 5),some (.ref 3),none,none,none,none,none,none,none,none,none] S2=.ok [.int 6,.int m] S2:=Q2 rfl (Q2 (W9 (Q2 rfl (Q2 (W9 (Q2 rfl (Q2 (W9 (Q2 rfl rfl) a3) rfl)) (Qka S2 30 _)) rfl)) (by rw [Q6q,em])) rfl);rw [Q60,ha,Qs];show (if _ then _ else _)=_;rw [bN (by rw [Ju]; omega),show ((m:Int) - 6).toNat=m - 6 by omega]
 have step:Qe2 C [some (.fro (ns.map .int)),none,none,none,none,none,none,none,none,none,none,none,none,none,none] []=.rt (.bl true) S3:=
  Qa (Qq (Qd (n:=1) (Q2 rfl rfl) rfl e1)) (Qa (Qq (W9 (Q2 rfl rfl) a4)) (Qa (Qd7 (Qd (n:=4) (Q2 rfl (Q2 rfl (Q2 rfl (Q2 rfl rfl)))) rfl e2) rfl) (Qa (Yu (Qp (Q6 (Qd (n:=2) (Q2 rfl (Q2 rfl rfl)) rfl e4) rfl (Qdz S2 _))) rfl) (Qa (Q1t a2 ef) rfl))))
 have Y:fin [] (.bl true) S3=.ok (.bl true) []:=by simp [fin,fz]
 exact ⟨_,(Zd (m:=Qe2 C) (nl:=15) (ps:=[.fro (ns.map .int)]) step).trans Y⟩
theorem all_mk {l:PySem.W.OpenLaw} {w:aL} {h:Heap} {fa f1 f2 f3 f4 f5 f6 f7 f8 f9 f10 f11 f12 f13 f14 f15 f16 f17 f18 f19 f20 f21 f22 f23 f24 f25 f26 f27 f28 f29 f30 f31 f32 f33 f34 f35 f36 f37 f38 f39 W0 f41 f42 f43 f44 f45 f46 f47 f48 f49 f50 f51 f52 f53 f54 f55 f56 f57 f58 f59 f60 v3:aA} (X:K.In h) (G:h.Ns aS mg) (hfa:mg "law" = some (.ref fa))
  {L8 s4:Option aA} {N4:Array (Option aB)} {G2 r9 r8 r7 o5 s5:aB}
  {k6 f0 c8 e9:aA}
  {eH:aA}
  {g0:Tok}
  {eW eS fI pd xN:aA} {xnm xqn:Str} {xbs E1:List aB} {xsn:List Str} {xab:Bool} {S7:Option Bool} {xdd odI anI:Option aA} {xk0 xk1 xk2 xk3 xk5:Option aB} {slI:Array (Option aB)} {kVI dcI pmI P7 ctI:aB} {pt1 pt2 pt3 pu1 pu2 pu3:Tok} {pep:Nat} {cdx:ClassData} {x1:aA} {qt1 qt2 qt3 qt4 qu1 qu2 qu3 qu4:Tok} {H7:Nat} {b6 O B I J c9 d2 d1 d3 d7 b3 b2 b5 b4 b1:aA} {H9 N7 L4 S8:ClassData}
  (aH:PySem.W.nsIn K aS "House" = some (some (.ref eH)))
  (Hpg:PySem.W.plainGet K eH Str.empty=true)
  (Hhd:PySem.W.hasDictIn K eH=true)
  (Hpo:PySem.W.plainOver K eH=true)
  (Hsa:PySem.W.findIn K (.ref eH) "__setattr__" = some (some (.builtin "object.__setattr__")))
  (Hmk:PySem.W.makesIn K eH=true)
  (Hkc:PySem.W.keepIn K (.ref eH)=true)
  (l9:PySem.W.findIn K (.ref eH) "number" = some none)
  (r3:PySem.W.findIn K (.ref eH) "now" = some none)
  (o3:PySem.W.findIn K (.ref eH) "kept" = some none)
  (S3:PySem.W.nsIn K aS "law" = some (some (.ref v3)))
  (l61:K.lookup v3=some ⟨G2,L8,.func (PySem.W.fnOf "law" "law" (Wi Q1z) (Yc Q1z) (Q7 Q1z) .none r9 r8 r7 s4 o5 s5),N4⟩)
  (c61:PySem.W.codeIn K o5 "law" = true)
  (k61:PySem.W.keepIn K (.ref v3)=true)
  (c3:PySem.W.nsIn K aS "rights_tables" = some (some (.ref f7)))
  (u6:PySem.W.nsIn K aS "all" = some none)
  (w4:PySem.W.nsIn K aS "any" = some none)
  (q6:PySem.W.nsIn K aS "bool" = some none)
  (t4:PySem.W.nsIn K aS "int" = some none)
  (g8:PySem.W.nsIn K aS "isinstance" = some none)
  (x2:PySem.W.nsIn K aS "len" = some none)
  (w6:PySem.W.nsIn K aS "max" = some none)
  (u1:PySem.W.nsIn K aS "min" = some none)
  (o9:PySem.W.nsIn K aS "range" = some none)
  (v7:PySem.W.nsIn K aS "str" = some none)
  (w9:PySem.W.nsIn K aS "sum" = some none)
  (o7:PySem.W.nsIn K aS "tuple" = some none)
  (y5:PySem.W.nsIn K aS "zip" = some none)
  (d9:PySem.W.nsIn K aS "MOST_HOUSES" = some (some (.int 8 g0)))
  (n7:PySem.W.nsIn K aS "NoDeed" = some (some (.ref k6)))
  (n2:PySem.W.nsIn K aS "NoHouse" = some (some (.ref f0)))
  (l5:PySem.W.nsIn K aS "NoLetter" = some (some (.ref c8)))
  (n0:PySem.W.nsIn K aS "NoTable" = some (some (.ref e9)))
  (nW:PySem.W.nsIn K aS "WharfError" = some (some (.ref eW)))
  (nS:PySem.W.nsIn K aS "Short" = some (some (.ref eS)))
  (N9:K.lookup eS=some (excClassObj xnm xqn eS xN xbs (.ref eW :: Uj) true xsn E1 xab S7 xdd xk0 xk1 xk2 xk3 xk5 "ValueError.__new__"))
  (xfi:PySem.W.findIn K (.ref eS) "__init__" = some (some (.ref fI)))
  (li:K.lookup fI=some ⟨.type "function",odI,.func (PySem.W.fnOf "__init__" "Short.__init__" (Wi Q7u) (Yc Q7u) (Q7 Q7u) .none kVI dcI pmI anI P7 ctI),slI⟩)
  (ci:PySem.W.codeIn K P7 "Short.__init__" = true)
  (ki:PySem.W.keepIn K (.ref fI)=true)
  (xkp:PySem.W.keepIn K (.ref eS)=true)
  (B0:PySem.W.specialIn K (.ref eW) "__getattribute__" = some (some (.builtin "type.__getattribute__")))
  (C9:PySem.W.readsIn K eW (.type "type")=true)
  (R8:PySem.W.findCls K (.ref eW) (.type "type") "__init__" = some (.val (.builtin "ValueError.__init__")))
  (xsa:PySem.W.findIn K (.ref eS) "__setattr__" = some (some (.builtin "object.__setattr__")))
  (P9:PySem.W.findIn K (.ref eS) "had" = some none)
  (I6:PySem.W.mroIn K eS (.type "object")=some true)
  (pns:PySem.W.nsIn K aS "PARTS_OF_DEED" = some (some (.ref pd)))
  (plk:K.lookup pd=some ⟨.type "dict",none,.dict #[⟨PyData.keyHash w.params "make",.str "make" pt1,.int 3 pu1⟩,⟨PyData.keyHash w.params "lend",.str "lend" pt2,.int 4 pu2⟩,⟨PyData.keyHash w.params "use",.str "use" pt3,.int 3 pu3⟩] pep,#[]⟩)
  (H8:PySem.W.clsIn K eS=some cdx)
  (xga:PySem.W.findIn K (.ref eS) "__getattribute__" = some (some (.builtin "BaseException.__getattribute__")))
  (xgt:PySem.W.findIn K (.ref eS) "__getattr__" = some none)
  (xcl:PySem.W.findIn K (.ref eS) "__class__" = some (some (.builtin "object.__class__")))
  (o1:PySem.W.specialIn K (.builtin "object.__class__") "__get__" = some (some (.builtin "getset_descriptor.__get__")))
  (o2:PySem.W.takesIn K (.builtin "object.__class__")=some true)
  (xbe:PySem.W.mroIn K eS (.type "BaseException")=some true)
  (C4:PySem.W.nsIn K aS "PARTS_OF_OTHER_DEED" = some (some (.ref x1)))
  (B5:K.lookup x1=some ⟨.type "dict",none,.dict #[⟨PyData.keyHash w.params "keep",.str "keep" qt1,.int 2 qu1⟩,⟨PyData.keyHash w.params "fall",.str "fall" qt2,.int 2 qu2⟩,⟨PyData.keyHash w.params "send",.str "send" qt3,.int 2 qu3⟩,⟨PyData.keyHash w.params "come",.str "come" qt4,.int 3 qu4⟩] H7,#[]⟩)
  (nn0:PySem.W.nsIn K aS "WharfError" = some (some (.ref b6)))
  (nn1:PySem.W.nsIn K aS "NoTable" = some (some (.ref O)))
  (nn2:PySem.W.nsIn K aS "NoHouse" = some (some (.ref B)))
  (nn3:PySem.W.nsIn K aS "NoDeed" = some (some (.ref I)))
  (nn4:PySem.W.nsIn K aS "NoLetter" = some (some (.ref J)))
  (nn5:PySem.W.nsIn K aS "NoStand" = some (some (.ref c9)))
  (nn6:PySem.W.nsIn K aS "NoRoad" = some (some (.ref d2)))
  (nn7:PySem.W.nsIn K aS "NoPlan" = some (some (.ref d1)))
  (nn8:PySem.W.nsIn K aS "NoBook" = some (some (.ref d3)))
  (nn9:PySem.W.nsIn K aS "NoManner" = some (some (.ref d7)))
  (C5:PySem.W.nsIn K aS "TooMany" = some (some (.ref b3)))
  (G5:PySem.W.nsIn K aS "NoText" = some (some (.ref b2)))
  (I9:PySem.W.nsIn K aS "NoRow" = some (some (.ref b5)))
  (M5:PySem.W.nsIn K aS "NoName" = some (some (.ref b4)))
  (I0:PySem.W.nsIn K aS "Short" = some (some (.ref b1)))
  (i8:PySem.W.nsIn K aS "ValueError" = some none)
  (i0:PySem.W.nsIn K aS "isinstance" = some none)
  (t0:PySem.W.clsIn K I=some H9)
  (R0:PySem.W.findIn K (.ref I) "__getattribute__" = some (some (.builtin "BaseException.__getattribute__")))
  (L9:PySem.W.findIn K (.ref I) "__getattr__" = some none)
  (P4:PySem.W.findIn K (.ref I) "__class__" = some (some (.builtin "object.__class__")))
  (N2:PySem.W.mroIn K I (.type "object")=some true)
  (I1:PySem.W.mroIn K I (.type "BaseException")=some true)
  (s6:PySem.W.clsIn K B=some N7)
  (B7:PySem.W.findIn K (.ref B) "__getattribute__" = some (some (.builtin "BaseException.__getattribute__")))
  (C7:PySem.W.findIn K (.ref B) "__getattr__" = some none)
  (S6:PySem.W.findIn K (.ref B) "__class__" = some (some (.builtin "object.__class__")))
  (S9:PySem.W.mroIn K B (.type "object")=some true)
  (M4:PySem.W.mroIn K B (.type "BaseException")=some true)
  (s9:PySem.W.clsIn K J=some L4)
  (R1:PySem.W.findIn K (.ref J) "__getattribute__" = some (some (.builtin "BaseException.__getattribute__")))
  (M6:PySem.W.findIn K (.ref J) "__getattr__" = some none)
  (M3:PySem.W.findIn K (.ref J) "__class__" = some (some (.builtin "object.__class__")))
  (L3:PySem.W.mroIn K J (.type "object")=some true)
  (C0:PySem.W.mroIn K J (.type "BaseException")=some true)
  (x7:PySem.W.clsIn K O=some S8)
  (M8:PySem.W.findIn K (.ref O) "__getattribute__" = some (some (.builtin "BaseException.__getattribute__")))
  (I3:PySem.W.findIn K (.ref O) "__getattr__" = some none)
  (C8:PySem.W.findIn K (.ref O) "__class__" = some (some (.builtin "object.__class__")))
  (G0:PySem.W.mroIn K O (.type "object")=some true)
  (V2:PySem.W.mroIn K O (.type "BaseException")=some true)
  (v0:FM K eH "__init__" "House.__init__" Xc f27)
  (w0:FM K eH "make" "House.make" yf f28)
  (u3:FM K eH "lend" "House.lend" yg f29)
  (v5:FM K eH "use" "House.use" Q08 f30)
  (t7:FM K eH "keep" "House.keep" yh f31)
  (v4:FM K eH "fall" "House.fall" yi f32)
  (w7:FM K eH "letter" "House.letter" qj f33)
  (v1:FM K eH "come" "House.come" yj f34)
  (w8:FM K eH "table" "House.table" js f35)
  (z1:FM K eH "rights" "House.rights" qi f36)
  (t8:FM K eH "used" "House.used" ye f37)
  (h1:FA K "_wall" Q90 f1)
  (h2:FA K "is_whole" Q1c f2)
  (h3:FA K "is_between" y3 f3)
  (h4:FA K "is_row" Q57 f4)
  (h5:FA K "is_table" Q1d f5)
  (h6:FA K "is_house" Q1e f6)
  (h7:FA K "rights" Q53 f7)
  (h8:FA K "need_as_many_houses" V4 f8)
  (h9:FA K "is_row_within" K5 f9)
  (h10:FA K "joined_row" y0 f10)
  (h11:FA K "joined" Q56 f11)
  (h12:FA K "is_text_and_numbers" V5 f12)
  (h13:FA K "is_deed" Q2q f13)
  (h14:FA K "need_houses_of_deed" V3 f14)
  (h15:FA K "place_in_row" qc f15)
  (h16:FA K "raised" Q54 f16)
  (h17:FA K "done" Qc8 f17)
  (h18:FA K "made_some" Q06 f18)
  (h19:FA K "lent_or_used_some" U2 f19)
  (h20:FA K "was_lent_some" K3 f20)
  (h21:FA K "has_root" Q1f f21)
  (h22:FA K "rooted_houses" K4 f22)
  (h23:FA K "rootless_houses" Uu f23)
  (h24:FA K "comes_about" jj f24)
  (h25:FA K "does_come_about" Uv f25)
  (h26:FA K "need_comes_about" Uf f26)
  (h38:FA K "is_other_deed" K6 f38)
  (h39:FA K "need_deed_of_run" Ue f39)
  (h40:FA K "do_own_deed" ji W0)
  (h41:FA K "do_other_deed" K7 f41)
  (h42:FA K "answer_to" Q07 f42)
  (h43:FA K "played" Q55 f43)
  (h44:FA K "_law_acell" yc f44)
  (h45:FA K "_law_atape" y4 f45)
  (h46:FA K "_law_adigit" jq f46)
  (h47:FA K "_law_arights" qd f47)
  (h48:FA K "_law_abare" yd f48)
  (h49:FA K "_law_araised" qe f49)
  (h50:FA K "_law_ajoined" qg f50)
  (h51:FA K "_law_amuch" y8 f51)
  (h52:FA K "_law_atable" jm f52)
  (h53:FA K "_law_astart" jn f53)
  (h54:FA K "_law_astep" y6 f54)
  (h55:FA K "_law_adrawn" jp f55)
  (h56:FA K "_law_aplayed" qf f56)
  (h57:FA K "_law_abegun" jr f57)
  (h58:FA K "_law_akind" y9 f58)
  (h59:FA K "_law_acaught" qh f59)
  (h60:FA K "_law_awrong" jk f60)
  (n6:PySem.W.excIn K k6 Uj "ValueError.__new__" = true)
  (l8:PySem.W.excIn K f0 Uj "ValueError.__new__" = true)
  (l6:PySem.W.excIn K c8 Uj "ValueError.__new__" = true)
  (l7:PySem.W.excIn K e9 Uj "ValueError.__new__" = true)
  (xw:PySem.W.excIn K eW Uj "ValueError.__new__" = true)
  (psm:(pd == ai)=false)
  (B4:(x1 == ai)=false)
  (S4:PySem.W.kitOne K (.ref I) (.type "ValueError")=some true)
  (xw3:PySem.W.kitOne K (.ref I) (.ref b6)=some true)
  (y7:PySem.W.kitOne K (.ref I) (.ref O)=some false)
  (t5:PySem.W.kitOne K (.ref I) (.ref B)=some false)
  (w2:PySem.W.kitOne K (.ref I) (.ref I)=some true)
  (x6:PySem.W.kitOne K (.ref I) (.ref J)=some false)
  (v2:PySem.W.kitOne K (.ref I) (.ref c9)=some false)
  (w5:PySem.W.kitOne K (.ref I) (.ref d2)=some false)
  (u4:PySem.W.kitOne K (.ref I) (.ref d1)=some false)
  (t9:PySem.W.kitOne K (.ref I) (.ref d3)=some false)
  (u8:PySem.W.kitOne K (.ref I) (.ref d7)=some false)
  (p4:PySem.W.kitOne K (.ref I) (.ref b3)=some false)
  (r2:PySem.W.kitOne K (.ref I) (.ref b2)=some false)
  (p3:PySem.W.kitOne K (.ref I) (.ref b5)=some false)
  (r6:PySem.W.kitOne K (.ref I) (.ref b4)=some false)
  (r5:PySem.W.kitOne K (.ref I) (.ref b1)=some false)
  (H3:PySem.W.kitOne K (.ref B) (.type "ValueError")=some true)
  (xw2:PySem.W.kitOne K (.ref B) (.ref b6)=some true)
  (v8:PySem.W.kitOne K (.ref B) (.ref O)=some false)
  (s7:PySem.W.kitOne K (.ref B) (.ref B)=some true)
  (z2:PySem.W.kitOne K (.ref B) (.ref I)=some false)
  (x4:PySem.W.kitOne K (.ref B) (.ref J)=some false)
  (x3:PySem.W.kitOne K (.ref B) (.ref c9)=some false)
  (u7:PySem.W.kitOne K (.ref B) (.ref d2)=some false)
  (u2:PySem.W.kitOne K (.ref B) (.ref d1)=some false)
  (v9:PySem.W.kitOne K (.ref B) (.ref d3)=some false)
  (x5:PySem.W.kitOne K (.ref B) (.ref d7)=some false)
  (r1:PySem.W.kitOne K (.ref B) (.ref b3)=some false)
  (q8:PySem.W.kitOne K (.ref B) (.ref b2)=some false)
  (p7:PySem.W.kitOne K (.ref B) (.ref b5)=some false)
  (p6:PySem.W.kitOne K (.ref B) (.ref b4)=some false)
  (q9:PySem.W.kitOne K (.ref B) (.ref b1)=some false)
  (H4:PySem.W.kitOne K (.ref J) (.type "ValueError")=some true)
  (xw4:PySem.W.kitOne K (.ref J) (.ref b6)=some true)
  (t3:PySem.W.kitOne K (.ref J) (.ref O)=some false)
  (v6:PySem.W.kitOne K (.ref J) (.ref B)=some false)
  (z5:PySem.W.kitOne K (.ref J) (.ref I)=some false)
  (z4:PySem.W.kitOne K (.ref J) (.ref J)=some true)
  (z7:PySem.W.kitOne K (.ref J) (.ref c9)=some false)
  (x0:PySem.W.kitOne K (.ref J) (.ref d2)=some false)
  (y1:PySem.W.kitOne K (.ref J) (.ref d1)=some false)
  (u0:PySem.W.kitOne K (.ref J) (.ref d3)=some false)
  (u9:PySem.W.kitOne K (.ref J) (.ref d7)=some false)
  (q0:PySem.W.kitOne K (.ref J) (.ref b3)=some false)
  (q5:PySem.W.kitOne K (.ref J) (.ref b2)=some false)
  (p5:PySem.W.kitOne K (.ref J) (.ref b5)=some false)
  (r4:PySem.W.kitOne K (.ref J) (.ref b4)=some false)
  (p1:PySem.W.kitOne K (.ref J) (.ref b1)=some false)
  (B1:PySem.W.kitOne K (.ref O) (.type "ValueError")=some true)
  (xw1:PySem.W.kitOne K (.ref O) (.ref b6)=some true)
  (t6:PySem.W.kitOne K (.ref O) (.ref O)=some true)
  (u5:PySem.W.kitOne K (.ref O) (.ref B)=some false)
  (z6:PySem.W.kitOne K (.ref O) (.ref I)=some false)
  (w1:PySem.W.kitOne K (.ref O) (.ref J)=some false)
  (s8:PySem.W.kitOne K (.ref O) (.ref c9)=some false)
  (z3:PySem.W.kitOne K (.ref O) (.ref d2)=some false)
  (w3:PySem.W.kitOne K (.ref O) (.ref d1)=some false)
  (y2:PySem.W.kitOne K (.ref O) (.ref d3)=some false)
  (z0:PySem.W.kitOne K (.ref O) (.ref d7)=some false)
  (r0:PySem.W.kitOne K (.ref O) (.ref b3)=some false)
  (q4:PySem.W.kitOne K (.ref O) (.ref b2)=some false)
  (p9:PySem.W.kitOne K (.ref O) (.ref b5)=some false)
  (q7:PySem.W.kitOne K (.ref O) (.ref b4)=some false)
  (p8:PySem.W.kitOne K (.ref O) (.ref b1)=some false)
  (xes:PySem.W.exmOne K (.ref eS) (.ref eS)=some true)
  (S0:PySem.W.exmOne K (.ref I) (.ref b6)=some true)
  (T6:PySem.W.exmOne K (.ref B) (.ref b6)=some true)
  (R5:PySem.W.exmOne K (.ref J) (.ref b6)=some true)
  (T0:PySem.W.exmOne K (.ref O) (.ref b6)=some true)
  (hL:noL K=true) :
  ∃ fd:aP,(∀ (s:aC) (v:aB),BindsTo s fd ⟨[v],[]⟩ [("script",v)])/\∀ base:Heap,K.In base->base.Ns aS mg->FnOk l.prog w K mg base (CXD l.prog w) 12 fa fd ["script"] (Q8y K):=by
 have e:=hfa.symm.trans (PySem.W.mg_of X G S3);cases e;have T:Txt mg:=⟨PySem.W.mg_none_of X G u6,PySem.W.mg_none_of X G w4,PySem.W.mg_none_of X G q6,PySem.W.mg_none_of X G t4,PySem.W.mg_none_of X G g8,PySem.W.mg_none_of X G x2,PySem.W.mg_none_of X G w6,PySem.W.mg_none_of X G u1,PySem.W.mg_none_of X G o9,PySem.W.mg_none_of X G v7,PySem.W.mg_none_of X G w9,PySem.W.mg_none_of X G o7,PySem.W.mg_none_of X G y5,⟨_,PySem.W.mg_of X G d9⟩⟩;have k5:∃ C,mg "NoDeed" = some (.ref C)/\PySem.W.excIn K C Uj "ValueError.__new__" = true:=⟨_,PySem.W.mg_of X G n7,n6⟩;have a7:∃ C,mg "NoHouse" = some (.ref C)/\PySem.W.excIn K C Uj "ValueError.__new__" = true:=⟨_,PySem.W.mg_of X G n2,l8⟩;have c7:∃ C,mg "NoLetter" = some (.ref C)/\PySem.W.excIn K C Uj "ValueError.__new__" = true:=⟨_,PySem.W.mg_of X G l5,l6⟩
 have g1:∃ C,mg "NoTable" = some (.ref C)/\PySem.W.excIn K C Uj "ValueError.__new__" = true:=⟨_,PySem.W.mg_of X G n0,l7⟩;have CD:∃ cd,PySem.W.clsIn K eS=some cd/\cd.mro=.ref eS :: .ref eW :: Uj/\cd.hasDict=true:=⟨_,by unfold PySem.W.clsIn; rw [N9],rfl,rfl⟩;have OS:ShortOk K mg eW eS fI:=⟨PySem.W.mg_of X G nW,PySem.W.mg_of X G nS,⟨⟨_,_,_,_,_,_,_,_,_,_,_,_,_,_,N9⟩,xw,xfi,⟨_,li,rfl⟩,xkp⟩,⟨B0,C9,R8⟩,⟨xsa,I6,CD,P9⟩⟩;have FI:=Qcz (x := "__init__") (qual := "Short.__init__") (st:=Q7u) li ci ki;have BI:=FI.binds (ps:=["self", "had"]) fun _ _ _ _ _ _ us hl=>match us,hl with | [_,_],_=>rfl
 have PK:PartsOk l.prog w K mg:=Qir (PySem.W.mg_of X G pns) plk psm;have PO:PartsO l.prog w K mg:=Qfg (PySem.W.mg_of X G C4) B5 B4;have XC:XCls K eS:=⟨show (PySem.W.clsIn K eS).isSome=true by rw [H8]; rfl,xga,xgt,xcl,o1,o2,I6,xbe⟩;have Sx:∃ C,mg "Short" = some (.ref C)/\PySem.W.exmOne K (.ref C) (.ref C)=some true/\XGet K C "had" := ⟨_,OS.ms,xes,XC,(let ⟨cd,a,_,b⟩:=CD; ⟨cd,a,b⟩),P9⟩;have Nm:Nms mg (fun i=>[b6,O,B,I,J,c9,d2,d1,d3,d7,b3,b2,b5,b4,b1].getD i 0):=⟨PySem.W.mg_of X G nn0,PySem.W.mg_of X G nn1,PySem.W.mg_of X G nn2,PySem.W.mg_of X G nn3,PySem.W.mg_of X G nn4,PySem.W.mg_of X G nn5,PySem.W.mg_of X G nn6,PySem.W.mg_of X G nn7,PySem.W.mg_of X G nn8,PySem.W.mg_of X G nn9,PySem.W.mg_of X G C5,PySem.W.mg_of X G G5,PySem.W.mg_of X G I9,PySem.W.mg_of X G M5,PySem.W.mg_of X G I0,PySem.W.mg_none_of X G i8,PySem.W.mg_none_of X G i0⟩
 have XC3:XCls K I:=⟨show (PySem.W.clsIn K I).isSome=true by rw [t0]; rfl,R0,L9,P4,o1,o2,N2,I1⟩;have T3:TgtS K (fun i=>[b6,O,B,I,J,c9,d2,d1,d3,d7,b3,b2,b5,b4,b1].getD i 0) 3:=⟨XC3,S4,S0,fun i h1 h2=>match i,h1,h2 with | 0,h,_=>absurd h (by omega) | 1,_,_=>y7 | 2,_,_=>t5 | 3,_,_=>w2 | 4,_,_=>x6 | 5,_,_=>v2 | 6,_,_=>w5 | 7,_,_=>u4 | 8,_,_=>t9 | 9,_,_=>u8 | 10,_,_=>p4 | 11,_,_=>r2 | 12,_,_=>p3 | 13,_,_=>r6 | 14,_,_=>r5 | _ + 15,_,h=>absurd h (by omega)⟩;have XC2:XCls K B:=⟨show (PySem.W.clsIn K B).isSome=true by rw [s6]; rfl,B7,C7,S6,o1,o2,S9,M4⟩;have T2:TgtS K (fun i=>[b6,O,B,I,J,c9,d2,d1,d3,d7,b3,b2,b5,b4,b1].getD i 0) 2:=⟨XC2,H3,T6,fun i h1 h2=>match i,h1,h2 with | 0,h,_=>absurd h (by omega) | 1,_,_=>v8 | 2,_,_=>s7 | 3,_,_=>z2 | 4,_,_=>x4 | 5,_,_=>x3 | 6,_,_=>u7 | 7,_,_=>u2 | 8,_,_=>v9 | 9,_,_=>x5 | 10,_,_=>r1 | 11,_,_=>q8 | 12,_,_=>p7 | 13,_,_=>p6 | 14,_,_=>q9 | _ + 15,_,h=>absurd h (by omega)⟩
 have XC4:XCls K J:=⟨show (PySem.W.clsIn K J).isSome=true by rw [s9]; rfl,R1,M6,M3,o1,o2,L3,C0⟩;have T4:TgtS K (fun i=>[b6,O,B,I,J,c9,d2,d1,d3,d7,b3,b2,b5,b4,b1].getD i 0) 4:=⟨XC4,H4,R5,fun i h1 h2=>match i,h1,h2 with | 0,h,_=>absurd h (by omega) | 1,_,_=>t3 | 2,_,_=>v6 | 3,_,_=>z5 | 4,_,_=>z4 | 5,_,_=>z7 | 6,_,_=>x0 | 7,_,_=>y1 | 8,_,_=>u0 | 9,_,_=>u9 | 10,_,_=>q0 | 11,_,_=>q5 | 12,_,_=>p5 | 13,_,_=>r4 | 14,_,_=>p1 | _ + 15,_,h=>absurd h (by omega)⟩;have XC1:XCls K O:=⟨show (PySem.W.clsIn K O).isSome=true by rw [x7]; rfl,M8,I3,C8,o1,o2,G0,V2⟩;have T1:TgtS K (fun i=>[b6,O,B,I,J,c9,d2,d1,d3,d7,b3,b2,b5,b4,b1].getD i 0) 1:=⟨XC1,B1,T0,fun i h1 h2=>match i,h1,h2 with | 0,h,_=>absurd h (by omega) | 1,_,_=>t6 | 2,_,_=>u5 | 3,_,_=>z6 | 4,_,_=>w1 | 5,_,_=>s8 | 6,_,_=>z3 | 7,_,_=>w3 | 8,_,_=>y2 | 9,_,_=>z0 | 10,_,_=>r0 | 11,_,_=>q4 | 12,_,_=>p9 | 13,_,_=>q7 | 14,_,_=>p8 | _ + 15,_,h=>absurd h (by omega)⟩
 have TT:∀ t wd,(t,wd)∈kdL->TgtS K (fun i=>[b6,O,B,I,J,c9,d2,d1,d3,d7,b3,b2,b5,b4,b1].getD i 0) t/\PySem.W.kitOne K (.ref ([b6,O,B,I,J,c9,d2,d1,d3,d7,b3,b2,b5,b4,b1].getD t 0)) (.ref b6)=some true:=fun t wd h=>by
  simp only [kdL,D4,Prod.mk.injEq,F6,or_false] at h;rcases h with ⟨rfl,rfl⟩ | ⟨rfl,rfl⟩ | ⟨rfl,rfl⟩ | ⟨rfl,rfl⟩
  ·exact ⟨T3,xw3⟩
  ·exact ⟨T2,xw2⟩
  ·exact ⟨T4,xw4⟩
  ·exact ⟨T1,xw1⟩
 have TC:ClsT K eH:=⟨⟨Hpg,Hhd,Hpo,Hsa⟩,l9,r3,o3⟩;obtain ⟨_,A1⟩:=Yr ["k"] X G h1;obtain ⟨_,A2⟩:=Yr ["thing"] X G h2;obtain ⟨_,A3⟩:=Yr ["thing", "least", "most"] X G h3;obtain ⟨_,A4⟩:=Yr ["thing", "n"] X G h4;obtain ⟨_,A5⟩:=Yr ["thing"] X G h5;obtain ⟨_,A6⟩:=Yr ["table", "thing"] X G h6;obtain ⟨_,A7⟩:=Yr ["table", "house"] X G h7;obtain ⟨_,A8⟩:=Yr ["one", "other"] X G h8;obtain ⟨_,A9⟩:=Yr ["one", "other"] X G h9;obtain ⟨_,H5⟩:=Yr ["one", "other"] X G h10;obtain ⟨_,G1⟩:=Yr ["one", "other"] X G h11;obtain ⟨_,T7⟩:=Yr ["thing"] X G h12;obtain ⟨_,N3⟩:=Yr ["thing"] X G h13;obtain ⟨_,P1⟩:=Yr ["table", "deed"] X G h14;obtain ⟨_,L2⟩:=Yr ["table", "deed"] X G h15;obtain ⟨_,C3⟩:=Yr ["table", "house", "place", "k"] X G h16;obtain ⟨_,T5⟩:=Yr ["table", "deed"] X G h17;obtain ⟨_,P2⟩:=Yr ["table", "house"] X G h18;obtain ⟨_,N8⟩:=Yr ["table", "house"] X G h19;obtain ⟨_,B3⟩:=Yr ["table", "house", "lenders"] X G h20
 obtain ⟨_,P5⟩:=Yr ["table", "house", "ahead"] X G h21;obtain ⟨_,T8⟩:=Yr ["table"] X G h22;obtain ⟨_,I8⟩:=Yr ["table"] X G h23;obtain ⟨_,L7⟩:=Yr ["table"] X G h24;obtain ⟨_,R6⟩:=Yr ["thing"] X G h25;obtain ⟨_,I4⟩:=Yr ["thing"] X G h26;obtain ⟨_,A27,B27⟩:=v0.at ["self", "number", "table"];obtain ⟨_,G4,B28⟩:=w0.at ["self", "k"];obtain ⟨_,P0,B29⟩:=u3.at ["self", "to", "k"];obtain ⟨_,R7,B30⟩:=v5.at ["self", "k"];obtain ⟨_,B8,B31⟩:=t7.at ["self"];obtain ⟨_,R9,B32⟩:=v4.at ["self"];obtain ⟨_,T9,B33⟩:=w7.at ["self"];obtain ⟨_,I5,B34⟩:=v1.at ["self", "table"];obtain ⟨_,C6,B35⟩:=w8.at ["self"];obtain ⟨_,M9,B36⟩:=z1.at ["self"];obtain ⟨_,L6,B37⟩:=t8.at ["self"];obtain ⟨_,N6⟩:=Yr ["thing"] X G h38;obtain ⟨_,C1⟩:=Yr ["table", "letters", "deed"] X G h39;obtain ⟨_,C2⟩:=Yr ["houses", "deed"] X G h40;obtain ⟨_,I7⟩:=Yr ["houses", "letters", "deed"] X G h41;obtain ⟨_,P8⟩:=Yr ["houses", "letters", "deed"] X G h42
 obtain ⟨_,B6⟩:=Yr ["table", "deeds"] X G h43;obtain ⟨_,G3⟩:=Yr ["script", "k"] X G h44;obtain ⟨_,B2⟩:=Yr ["script", "k"] X G h45;obtain ⟨_,R3⟩:=Yr ["tape", "many"] X G h46;obtain ⟨_,M7⟩:=Yr ["table", "i"] X G h47;obtain ⟨_,P6⟩:=Yr ["size"] X G h48;obtain ⟨_,N5⟩:=Yr ["table", "i", "at", "k"] X G h49;obtain ⟨_,H6⟩:=Yr ["one", "other"] X G h50;obtain ⟨_,B9⟩:=Yr ["tape"] X G h51;obtain ⟨_,P3⟩:=Yr ["tape", "size", "many"] X G h52;obtain ⟨_,L1⟩:=Yr ["table"] X G h53;obtain ⟨_,R4⟩:=Yr ["state", "deed"] X G h54;obtain ⟨_,M0⟩:=Yr ["tape", "state"] X G h55;obtain ⟨_,S5⟩:=Yr ["script", "start", "many", "table"] X G h56;obtain ⟨_,N1⟩:=Yr ["script"] X G h57;obtain ⟨_,I2⟩:=Yr ["caught"] X G h58;obtain ⟨_,L0⟩:=Yr ["table", "deeds"] X G h59;obtain ⟨_,N0⟩:=Yr ["tape", "size", "letters"] X G h60;have A61:=Quk (st:=Q1z) (ps:=["script"]) X G S3 l61 c61 k61 fun _ _ _ _ _ _ us hl=>match us,hl with | [_],_=>rfl
 refine ⟨PySem.W.fnOf "law" "law" (Wi Q1z) (Yc Q1z) (Q7 Q1z) .none r9 r8 r7 s4 o5 s5,fun s v=>.of_eq rfl,fun base kb nb=>?_⟩;have o8:ShortS l.prog w K mg base:=⟨_,_,_,_,OS.M,Qny FI OS,BI,OS.ms⟩;have o4:=A1.d l.prog w base rfl (Qix A1.F T    );have b7:=A2.d l.prog w base rfl (Qan A2.F T    );have i6:=A3.d l.prog w base rfl (Q74 A3.F T   b7 );have n5:=A4.d l.prog w base rfl (Qfk A4.F T   b7 );have l3:=A5.d l.prog w base rfl (Qap A5.F T   n5 );have a4:=A6.d l.prog w base rfl (Qaq A6.F T   i6 );have A0:=A7.d l.prog w base rfl (Q81 A7.F T  a7 a4 );have a3:DefS l.prog w K mg base 4 "rights_tables" 2 Vn:=⟨_,_,_,Q81 A7.F T  a7 a4 ,PySem.W.mg_of X G c3,A7.F.kp,A7.b,rfl⟩;have a2:=A8.d l.prog w base rfl (yr A8.F T  g1  )
 have c6:=A9.d l.prog w base rfl (Q2x A9.F T    );have g9:=H5.d l.prog w base rfl (Q73 H5.F T    );have n9:=G1.d l.prog w base rfl (Qfj G1.F T   a2 g9 );have Z:=T7.d l.prog w base rfl (yt T7.F T   b7 );have e7:=N3.d l.prog w base rfl (Qcj N3.F T PK   Z );have Y:=P1.d l.prog w base rfl (yq P1.F T  a7 a4 );have d8:=L2.d l.prog w base rfl (Q3s L2.F T    );have n3:=C3.d l.prog w base rfl (Qfh C3.F T    );have k9:=T5.d l.prog w base rfl (Qnz T5.F T o8  k5 e7 Y a3 n3 d8 );have k8:=P2.d l.prog w base rfl (Q97 P2.F T    );have b8:=N8.d l.prog w base rfl (Q0b N8.F T    );have c5:=B3.d l.prog w base rfl (Q2v B3.F T    )
 have l4:=P5.d l.prog w base rfl (Qar P5.F T   k8 c5 );have b0:=T8.d l.prog w base rfl (Q2w T8.F T   l4 );have c1:=I8.d l.prog w base rfl (Q1j I8.F T   b0 b8 );have e0:=L7.d l.prog w base rfl (Q5f L7.F T   a3 c1 b0 );have c2:=R6.d l.prog w base rfl (Q1k R6.F T   l3 e0 );have a6:=I4.d l.prog w base rfl (Q15 I4.F T  g1 c2 );have o6:MakeS l.prog w K mg base 8 eH "House" 3 (Yh eH):=⟨_,_,_,Q25 A27 T TC  a7 a6 a4 ,⟨Hmk,v0.1,v0.2.1,Hkc⟩,PySem.W.mg_of X G aH,B27,rfl⟩;have i9:MethS l.prog w K mg base 6 eH "make" 2 (Vx eH):=⟨_,_,_,Q7c G4 T TC   k9 ,⟨w0.1,w0.2.1,G4.kp⟩,B28,rfl⟩;have k0:MethS l.prog w K mg base 6 eH "lend" 3 (Vy eH):=⟨_,_,_,Q7d P0 T TC   k9 ,⟨u3.1,u3.2.1,P0.kp⟩,B29,rfl⟩
 have l0:MethS l.prog w K mg base 6 eH "use" 2 (Uq eH):=⟨_,_,_,Q99 R7 T TC   k9 ,⟨v5.1,v5.2.1,R7.kp⟩,B30,rfl⟩;have g7:MethS l.prog w K mg base 1 eH "keep" 1 (Vz eH):=⟨_,_,_,Q7e B8 T TC    ,⟨t7.1,t7.2.1,B8.kp⟩,B31,rfl⟩;have k4:MethS l.prog w K mg base 1 eH "fall" 1 (U0 eH):=⟨_,_,_,Q7f R9 T TC    ,⟨v4.1,v4.2.1,R9.kp⟩,B32,rfl⟩;have d6:MethS l.prog w K mg base 1 eH "letter" 1 (Yx eH):=⟨_,_,_,Q3z T9 T TC    ,⟨w7.1,w7.2.1,T9.kp⟩,B33,rfl⟩;have i5:MethS l.prog w K mg base 3 eH "come" 2 (U1 eH):=⟨_,_,_,Q7g I5 T TC  c7 a2 c6 n9 ,⟨v1.1,v1.2.1,I5.kp⟩,B34,rfl⟩;have e5:MethS l.prog w K mg base 1 eH "table" 1 (V1 eH):=⟨_,_,_,Q5n C6 T TC    ,⟨w8.1,w8.2.1,C6.kp⟩,B35,rfl⟩;have o0:MethS l.prog w K mg base 5 eH "rights" 1 (j8 eH):=⟨_,_,_,Q3y M9 T TC   a3 ,⟨z1.1,z1.2.1,M9.kp⟩,B36,rfl⟩
 have p0:MethS l.prog w K mg base 2 eH "used" 1 (Q2m eH):=⟨_,_,_,Q7b L6 T TC   o4 ,⟨t8.1,t8.2.1,L6.kp⟩,B37,rfl⟩;have a9:=N6.d l.prog w base rfl (Q2y N6.F T PO   Z );have b9:=C1.d l.prog w base rfl (Q14 C1.F T  k5 a7 c7 e7 Y a9 a4 );have g3:=C2.d l.prog w base rfl (Q5e C2.F T TC    i9 k0 l0);have c4:=I7.d l.prog w base rfl (Q2z I7.F T TC    g7 k4 d6 i5);have k7:=P8.d l.prog w base rfl (Q98 P8.F T TC Sx   a9 c4 g3 );have n4:=B6.d l.prog w base rfl (Qfi B6.F T TC   a6 b9 k7 o6 e5);have i4:=G3.d l.prog w base rfl (Q79 G3.F T    );have a8:=B2.d l.prog w base rfl (Q75 B2.F T   i4 )
 have q:=R3.d l.prog w base rfl (Q5k R3.F T    );have U:=M7.d l.prog w base rfl (Q3t M7.F T    );have i7:=P6.d l.prog w base rfl (Q7a P6.F T    );have a5:=N5.d l.prog w base rfl (Q3u N5.F T    );have d0:=H6.d l.prog w base rfl (Q3w H6.F T    );have c0:=B9.d l.prog w base rfl (Q77 B9.F T   q );have e4:=P3.d l.prog w base rfl (Q5h P3.F T   i7 q U a5 c0 );have g5:=L1.d l.prog w base rfl (Q5i L1.F T    );have i3:=R4.d l.prog w base rfl (Q76 R4.F T   d0 U a5 );have e8:=M0.d l.prog w base rfl (Q5j M0.F T   q U c0 );have d4:=S5.d l.prog w base rfl (Q3v S5.F T   g5 a8 e8 i3 )
 have g4:=N1.d l.prog w base rfl (Q5m N1.F T   a8 q e4 );have g6:=I2.defX (P:=l.prog) (w:=w) (base:=base) (Q78 I2.F T Nm TT   );have d5:=L0.d l.prog w base rfl (Q3x L0.F T TC Nm TT  n4 g6 );have e6:=N0.d l.prog w base rfl (Q5g N0.F T   q );exact Qpg hL (Qtc A61.F T TC   g4 d4 d5 a8 q e6 a5 U ) (Qph _)
end Lw
theorem PySem.W.Fast.tw14866264180093336478 : True := trivial
theorem PySem.W.Fast.tw3949409986979804027 : True := trivial
theorem PySem.W.Fast.tw9601952373245415149 : True := trivial
theorem PySem.W.Fast.tw13838971768133399897 : True := trivial
theorem PySem.W.Fast.tw17826632073127581888 : True := trivial
theorem PySem.W.Fast.tw12616943229473332935 : True := trivial
theorem PySem.W.Fast.tw3574877854290056080 : True := trivial
theorem PySem.W.Fast.tw15304474530679334196 : True := trivial
theorem PySem.W.Fast.tw10017672820239514853 : True := trivial
theorem PySem.W.Fast.tw5539471653928047206 : True := trivial
theorem PySem.W.Fast.tw10321246132538652854 : True := trivial
theorem PySem.W.Fast.tw10814164655360933302 : True := trivial
theorem PySem.W.Fast.tw4736719867278028871 : True := trivial
theorem PySem.W.Fast.tw572625087834730788 : True := trivial
theorem PySem.W.Fast.tw9556053354821460661 : True := trivial
theorem PySem.W.Fast.tw4876678138275049433 : True := trivial
theorem PySem.W.Fast.tw16853176108048543287 : True := trivial
theorem PySem.W.Fast.tw11956036804264665793 : True := trivial
theorem PySem.W.Fast.tw2072564238912789257 : True := trivial
theorem PySem.W.Fast.tw12143021160285950758 : True := trivial
theorem PySem.W.Fast.tw4484433666070463035 : True := trivial
theorem PySem.W.Fast.tw8786853933073927646 : True := trivial
theorem PySem.W.Fast.tw5313105376086130052 : True := trivial
theorem PySem.W.Fast.tw7001184096536037930 : True := trivial
theorem PySem.W.Fast.te8889169906333523829 : True := trivial
theorem PySem.W.Fast.te14665608085499978233 : True := trivial
theorem PySem.W.Fast.te12459644833844276327 : True := trivial
theorem PySem.W.Fast.te3290400372015094806 : True := trivial
theorem PySem.W.Fast.te9395512704236991593 : True := trivial
theorem PySem.W.Fast.te9088900079282514092 : True := trivial
theorem PySem.W.Fast.te17801941845151372822 : True := trivial
theorem PySem.W.Fast.te14135056931593393550 : True := trivial
theorem PySem.W.Fast.te6175632002033809223 : True := trivial
theorem PySem.W.Fast.te12066771724993245488 : True := trivial
theorem PySem.W.Fast.te13533189181956519323 : True := trivial
theorem PySem.W.Fast.te1128190542514665575 : True := trivial
theorem PySem.W.Fast.te3588389992839963392 : True := trivial
theorem PySem.W.Fast.te7389357851900514469 : True := trivial
theorem PySem.W.Fast.te8621610965365283691 : True := trivial
theorem PySem.W.Fast.te6703628392803941723 : True := trivial
theorem PySem.W.Fast.te11904451999032498178 : True := trivial
theorem PySem.W.Fast.te4582386468137329791 : True := trivial
theorem PySem.W.Fast.te4124315600998043295 : True := trivial
theorem PySem.W.Fast.te16957813022078251898 : True := trivial
theorem PySem.W.Fast.te3201756516244814318 : True := trivial
theorem PySem.W.Fast.te11517371405840213741 : True := trivial
theorem PySem.W.Fast.te10615011835348474267 : True := trivial
theorem PySem.W.Fast.te17877265118548258552 : True := trivial
theorem PySem.W.Fast.te14132712946265057185 : True := trivial
theorem PySem.W.Fast.te9458822093238013265 : True := trivial
theorem PySem.W.Fast.te12031561007182919411 : True := trivial
theorem PySem.W.Fast.te1431025582176370865 : True := trivial
theorem PySem.W.Fast.te7078577740511404139 : True := trivial
theorem PySem.W.Fast.te381165737802742479 : True := trivial
theorem PySem.W.Fast.te9307202745982524301 : True := trivial
theorem PySem.W.Fast.te9045111932974054494 : True := trivial
theorem PySem.W.Fast.te14918346841096113760 : True := trivial
theorem PySem.W.Fast.te2191723931347960283 : True := trivial
theorem PySem.W.Fast.te4797700329738105394 : True := trivial
theorem PySem.W.Fast.te5442175115540925619 : True := trivial
theorem PySem.W.Fast.te6790105950281351146 : True := trivial
theorem PySem.W.Fast.te7225443972384113476 : True := trivial
theorem PySem.W.Fast.te14249267933823018539 : True := trivial
theorem PySem.W.Fast.te17621506992055208075 : True := trivial
theorem PySem.W.Fast.te9243783741266182316 : True := trivial
theorem PySem.W.Fast.te8244716978738226937 : True := trivial
theorem PySem.W.Fast.te11161477106919894923 : True := trivial
theorem PySem.W.Fast.te227124472663848684 : True := trivial
theorem PySem.W.Fast.te8363019646397484393 : True := trivial
theorem PySem.W.Fast.te6532273543953051372 : True := trivial
theorem PySem.W.Fast.te5880272453513613424 : True := trivial
theorem PySem.W.Fast.te3921213440638201085 : True := trivial
theorem PySem.W.Fast.te3673987655257726068 : True := trivial
theorem PySem.W.Fast.te1518172020695863402 : True := trivial
theorem PySem.W.Fast.te6545605856727133565 : True := trivial
theorem PySem.W.Fast.te12045558643547393050 : True := trivial
theorem PySem.W.Fast.te1343269577622203143 : True := trivial
theorem PySem.W.Fast.te14631288267021324607 : True := trivial
theorem PySem.W.Fast.te11727814067412654437 : True := trivial
theorem PySem.W.Fast.te10057167295347171440 : True := trivial
theorem PySem.W.Fast.te6109866033246440672 : True := trivial
theorem PySem.W.Fast.te17184776400570963629 : True := trivial
theorem PySem.W.Fast.te5615349866995617460 : True := trivial
theorem PySem.W.Fast.te4505263215843541562 : True := trivial
theorem PySem.W.Fast.te12481770978282290528 : True := trivial
theorem PySem.W.Fast.te17993050995956774448 : True := trivial
theorem PySem.W.Fast.te5030126269656318635 : True := trivial
theorem PySem.W.Fast.te8289129657066626417 : True := trivial
theorem PySem.W.Fast.te9550888154127334359 : True := trivial
theorem PySem.W.Fast.te15445340671826606145 : True := trivial
theorem PySem.W.Fast.te11970046005912335500 : True := trivial
theorem PySem.W.Fast.te2499459546838220781 : True := trivial
theorem PySem.W.Fast.te6558396042146107374 : True := trivial
theorem PySem.W.Fast.te259614582096536226 : True := trivial
theorem PySem.W.Fast.te2467238792242126230 : True := trivial
theorem PySem.W.Fast.te7455808760065991651 : True := trivial
theorem PySem.W.Fast.te10133023698668780227 : True := trivial
theorem PySem.W.Fast.te2278205116933960059 : True := trivial
theorem PySem.W.Fast.te13915818196381741388 : True := trivial
theorem PySem.W.Fast.te3254499144977204117 : True := trivial
theorem PySem.W.Fast.te3266674569568308256 : True := trivial
theorem PySem.W.Fast.te1188854191937481110 : True := trivial
theorem PySem.W.Fast.te11807116956932406260 : True := trivial
theorem PySem.W.Fast.te15441831986527720535 : True := trivial
theorem PySem.W.Fast.te264562488471830644 : True := trivial
theorem PySem.W.Fast.te15317713493879780192 : True := trivial
theorem PySem.W.Fast.te17723287093347430050 : True := trivial
theorem PySem.W.Fast.te1963570222296154821 : True := trivial
theorem PySem.W.Fast.te13535752618875138600 : True := trivial
theorem PySem.W.Fast.te6808420071719055855 : True := trivial
theorem PySem.W.Fast.te15238791440560723544 : True := trivial
theorem PySem.W.Fast.te17533014770396087779 : True := trivial
theorem PySem.W.Fast.te1838921381116446853 : True := trivial
theorem PySem.W.Fast.te15759308162051830178 : True := trivial
theorem PySem.W.Fast.te13054660936306726945 : True := trivial
theorem PySem.W.Fast.te9931673729891787480 : True := trivial
theorem PySem.W.Fast.te17680501990784387076 : True := trivial
theorem PySem.W.Fast.te3651540909716704999 : True := trivial
theorem PySem.W.Fast.te16449355300268540243 : True := trivial
theorem PySem.W.Fast.te4084751074984449807 : True := trivial
theorem PySem.W.Fast.te3744479479554834464 : True := trivial
theorem PySem.W.Fast.te6296937898253835980 : True := trivial
theorem PySem.W.Fast.te3523142609799611567 : True := trivial
theorem PySem.W.Fast.te16303885134474267710 : True := trivial
theorem PySem.W.Fast.te11212841615631582007 : True := trivial
theorem PySem.W.Fast.te543949268914754226 : True := trivial
theorem PySem.W.Fast.te12765887934863334474 : True := trivial
theorem PySem.W.Fast.te16511434488107370496 : True := trivial
theorem PySem.W.Fast.te586348890579399084 : True := trivial
theorem PySem.W.Fast.te4195324463253751321 : True := trivial
theorem PySem.W.Fast.te9197217152714475992 : True := trivial
theorem PySem.W.Fast.te4180609586244883105 : True := trivial
theorem PySem.W.Fast.te3472725542136461417 : True := trivial
theorem PySem.W.Fast.te16618607095773938088 : True := trivial
theorem PySem.W.Fast.te6948219748208410234 : True := trivial
theorem PySem.W.Fast.te12965326251710695360 : True := trivial
theorem PySem.W.Fast.te18194049090231537622 : True := trivial
theorem PySem.W.Fast.te15346301400566417307 : True := trivial
theorem PySem.W.Fast.te10653289200492697910 : True := trivial
theorem PySem.W.Fast.te1489950992976336041 : True := trivial
theorem PySem.W.Fast.te13295667013194573800 : True := trivial
theorem PySem.W.Fast.te1649145745501484017 : True := trivial
theorem PySem.W.Fast.te1396668013198568697 : True := trivial
theorem PySem.W.Fast.te12976411176357550076 : True := trivial
theorem PySem.W.Fast.te18432599127455365117 : True := trivial
theorem PySem.W.Fast.te15520503043546406169 : True := trivial
theorem PySem.W.Fast.te11003856771832285479 : True := trivial
theorem PySem.W.Fast.te8589140816920278750 : True := trivial
theorem PySem.W.Fast.te14705641374767018486 : True := trivial
theorem PySem.W.Fast.te9067119442419240960 : True := trivial
theorem PySem.W.Fast.te8600344786983038620 : True := trivial
theorem PySem.W.Fast.te18052306223001613077 : True := trivial
theorem PySem.W.Fast.te2170546937650462466 : True := trivial
theorem PySem.W.Fast.te11761093389407012735 : True := trivial
theorem PySem.W.Fast.te3415429023105953327 : True := trivial
theorem PySem.W.Fast.te15293425724991692791 : True := trivial
theorem PySem.W.Fast.te9564125993017206024 : True := trivial
theorem PySem.W.Fast.te17227906207600983893 : True := trivial
theorem PySem.W.Fast.te7548960132196509006 : True := trivial
theorem PySem.W.Fast.te10854466087558726628 : True := trivial
theorem PySem.W.Fast.te14394934764127041424 : True := trivial
theorem PySem.W.Fast.te13621196290620562128 : True := trivial
theorem PySem.W.Fast.te1102029284388176026 : True := trivial
theorem PySem.W.Fast.te14135660862293469526 : True := trivial
theorem PySem.W.Fast.te15175500296562634803 : True := trivial
theorem PySem.W.Fast.te16520825137067239511 : True := trivial
theorem PySem.W.Fast.te12862134465973609035 : True := trivial
theorem PySem.W.Fast.te7674067848555615950 : True := trivial
theorem PySem.W.Fast.te13743986705241517992 : True := trivial
theorem PySem.W.Fast.te17602655624852493349 : True := trivial
theorem PySem.W.Fast.te16894440083870060974 : True := trivial
theorem PySem.W.Fast.te12021808784348050813 : True := trivial
theorem PySem.W.Fast.te2829370210790107690 : True := trivial
theorem PySem.W.Fast.te2638100345254914513 : True := trivial
theorem PySem.W.Fast.te1307467487982954435 : True := trivial
theorem PySem.W.Fast.te7679508401564602080 : True := trivial
theorem PySem.W.Fast.te3035195583198834671 : True := trivial
theorem PySem.W.Fast.te13562928259082167892 : True := trivial
theorem PySem.W.Fast.te8022898613153651152 : True := trivial
theorem PySem.W.Fast.te13655179373045510873 : True := trivial
theorem PySem.W.Fast.te8123781431978399422 : True := trivial
theorem PySem.W.Fast.te8596479403590229145 : True := trivial
theorem PySem.W.Fast.te7720833126711175381 : True := trivial
theorem PySem.W.Fast.te13640653619591548251 : True := trivial
theorem PySem.W.Fast.te6259442733837029710 : True := trivial
theorem PySem.W.Fast.te16230348020033668396 : True := trivial
theorem PySem.W.Fast.te4809784439571650036 : True := trivial
theorem PySem.W.Fast.te16252059994152487841 : True := trivial
theorem PySem.W.Fast.te3895953522025707408 : True := trivial
theorem PySem.W.Fast.te6099920003760818322 : True := trivial
theorem PySem.W.Fast.te13867345957044874356 : True := trivial
theorem PySem.W.Fast.te9496060913258446712 : True := trivial
theorem PySem.W.Fast.te3947857358851700188 : True := trivial
theorem PySem.W.Fast.te2958156836358742314 : True := trivial
theorem PySem.W.Fast.te564523090875284975 : True := trivial
theorem PySem.W.Fast.te12041751216411449052 : True := trivial
theorem PySem.W.Fast.te12683886421514483510 : True := trivial
theorem PySem.W.Fast.te7192909913481355956 : True := trivial
theorem PySem.W.Fast.te4184833132495653364 : True := trivial
theorem PySem.W.Fast.te5766125426815019651 : True := trivial
theorem PySem.W.Fast.te9441756976586619078 : True := trivial
theorem PySem.W.Fast.te3758266982869606849 : True := trivial
theorem PySem.W.Fast.te8888299957470243951 : True := trivial
theorem PySem.W.Fast.te1514271837769131044 : True := trivial
theorem PySem.W.Fast.te16014987068460238898 : True := trivial
theorem PySem.W.Fast.te9415223684404479072 : True := trivial
theorem PySem.W.Fast.te5779711038518581670 : True := trivial
theorem PySem.W.Fast.te5303598100735258267 : True := trivial
theorem PySem.W.Fast.te5523764129453539821 : True := trivial
theorem PySem.W.Fast.te9869554146537744902 : True := trivial
theorem PySem.W.Fast.te5184188017612699147 : True := trivial
theorem PySem.W.Fast.te5277402655721799892 : True := trivial
theorem PySem.W.Fast.te5209460543074055016 : True := trivial
theorem PySem.W.Fast.te3432076790363974771 : True := trivial
theorem PySem.W.Fast.te12462572002822352752 : True := trivial
theorem PySem.W.Fast.te16126228239926195925 : True := trivial
theorem PySem.W.Fast.te12998543027919398452 : True := trivial
theorem PySem.W.Fast.te536639824762345191 : True := trivial
theorem PySem.W.Fast.te8169776740765500778 : True := trivial
theorem PySem.W.Fast.te15713823458076633379 : True := trivial
theorem PySem.W.Fast.te13172653116944161905 : True := trivial
theorem PySem.W.Fast.te10987896281284271316 : True := trivial
theorem PySem.W.Fast.te9352813337604944394 : True := trivial
theorem PySem.W.Fast.te17775971969196606769 : True := trivial
theorem PySem.W.Fast.te1831812777615615763 : True := trivial
theorem PySem.W.Fast.te13457563723922025308 : True := trivial
theorem PySem.W.Fast.te2115815024820612569 : True := trivial
theorem PySem.W.Fast.te6416750443197246413 : True := trivial
theorem PySem.W.Fast.te16799963192281885054 : True := trivial
theorem PySem.W.Fast.te15951686104311858457 : True := trivial
theorem PySem.W.Fast.te3841166625145487247 : True := trivial
theorem PySem.W.Fast.te6502631935211534198 : True := trivial
theorem PySem.W.Fast.te2439997237499707089 : True := trivial
theorem PySem.W.Fast.te11702818684402197593 : True := trivial
theorem PySem.W.Fast.te8732871079966837038 : True := trivial
theorem PySem.W.Fast.te15510063435604953603 : True := trivial
theorem PySem.W.Fast.te2833505308404432792 : True := trivial
theorem PySem.W.Fast.te1718847432024461125 : True := trivial
theorem PySem.W.Fast.te3689512502435115806 : True := trivial
theorem PySem.W.Fast.te6979156556670724165 : True := trivial
theorem PySem.W.Fast.te11292785754522691232 : True := trivial
theorem PySem.W.Fast.te17677480653478995906 : True := trivial
theorem PySem.W.Fast.te17082835630830302013 : True := trivial
theorem PySem.W.Fast.te17274735733351532173 : True := trivial
theorem PySem.W.Fast.te13912550750493368373 : True := trivial
theorem PySem.W.Fast.te5196510470004435036 : True := trivial
theorem PySem.W.Fast.te16144539937728113387 : True := trivial
theorem PySem.W.Fast.te13879981312726900154 : True := trivial
theorem PySem.W.Fast.te4393531934622820663 : True := trivial
theorem PySem.W.Fast.te16447878975941594738 : True := trivial
theorem PySem.W.Fast.te8336307915976154690 : True := trivial
theorem PySem.W.Fast.te7154124428868275265 : True := trivial
theorem PySem.W.Fast.te3234563676173306040 : True := trivial
theorem PySem.W.Fast.te17860924531161728263 : True := trivial
theorem PySem.W.Fast.te18087896449272576227 : True := trivial
theorem PySem.W.Fast.te5144266755425999878 : True := trivial
theorem PySem.W.Fast.te2204612968308316949 : True := trivial
theorem PySem.W.Fast.te17541363412950449997 : True := trivial
theorem PySem.W.Fast.te17990089108406151807 : True := trivial
theorem PySem.W.Fast.te16076135343484727717 : True := trivial
theorem PySem.W.Fast.te17748875126514357962 : True := trivial
theorem PySem.W.Fast.te2308580739863653702 : True := trivial
theorem PySem.W.Fast.te2462676000113610107 : True := trivial
theorem PySem.W.Fast.te4041626129257948585 : True := trivial
theorem PySem.W.Fast.te14145833990261262173 : True := trivial
open PySem PySem.W PyProof.Rows Sm
set_option maxRecDepth 100000 in
set_option maxHeartbeats 0 in
theorem PySem.Challenge.cw_lendwharf_k18_runs_refused_holds : PySem.Challenge.rw_lendwharf_k18_runs_refused.Holds := by
 w_on; o_law; k_head; (case hw=>w_witness2)
 k_fill
 refine Sm.walkS (l:=PySem.Challenge.rw_lendwharf_k18_runs_refused) (k:=12) rfl ⟨rfl,by decide,by decide⟩ rfl (fun w h Y=>PySem.W.kIn_of Y) ?F
 case F=>
  intro w mg fa h KX G hmg;refine' Lw.all_mk KX G hmg ..
  any_goals k_is
  any_goals exact FA.mk (by k_is) (by k_is) (by k_is) (by k_is)
  any_goals exact FM.mk (by k_is) (by k_is) (by k_is) (by k_is) (by k_is)
  any_goals k_exc
  all_goals first | kts_exm | kit_is | rfl | decide
