import PyProof.Rows.All
import Wide.All
import OpenK.AllK
import Wide.FinOn
import Lean
import PyProof.EqAt
import PyProof.EqKinds
import PyProof.TupleCall
import PyProof.ZipIter
import PyProof.Draws
import PyProof.SumAny
import PyProof.EnumMake
import PyProof.WalkInts
import PyProof.ExcArgsOwn
import PyProof.ExcAttrAll.ValueError
import PyProof.NsDelKeeps
import KE.KTryMore
import OpenK.KOwn
import PyProof.ListMulRoad
import PyProof.FactsAll.tuple_2
import PyProof.NeKinds
import PyProof.Rows.RuleIs
import PyProof.ExcInit
import PyProof.ExcClass3
import OpenK.KCls
import PyProof.InstStoreFacts
import OpenK.KMake
import PyProof.DictRoads
import PyProof.Rows.CountFlat
import PyProof.ListRange
import PyProof.Rows.SetFrom
import PyProof.CollectStr
import PyProof.Rows.TupMore
import PyProof.AttrMissHeap
import KE.KDictOf
import PyProof.DictWalks
import KE.KSortTup
import PyProof.DictItemsLoops
import KE.KDictList
import PyProof.CallStr
import PyProof.Conv_int_bool
import PySem.Challenge.RW_lendwharf_k46_cuts_weighed
set_option Elab.async false
set_option linter.all false
set_option maxRecDepth 100000
set_option maxHeartbeats 4000000
noncomputable section
namespace L2
open PySem PySem.Spec PyProof.Rows
abbrev Key:=Sum Int Str
def keyIs : Key -> Value -> Bool
  | .inl k,v=>Value.isInt k v
  | .inr x,v=>Value.isStrOf x v
def keyH (w : World) : Key -> Int
  | .inl k=>hashInt k
  | .inr x=>hashStr w x
theorem keyIs_shape : ∀ {k : Key} {v : Value},keyIs k v = true -> (∃ i t,k = Sum.inl i /\ v = Value.int i t) \/ (∃ x t,k = Sum.inr x /\ v = Value.str x t)
  | .inl i,v,h=>by
    obtain ⟨t,e⟩:=Value.isInt_shape (k:=i) (v:=v) h
    exact .inl ⟨i,t,rfl,e⟩
  | .inr x,v,h=>by
    obtain ⟨t,e⟩:=Value.isStrOf_shape (x:=x) (v:=v) h
    exact .inr ⟨x,t,rfl,e⟩
theorem key_ll (a b : Int) : decide ((Sum.inl a : Key) = Sum.inl b) = (a == b):=by
  by_cases e : a = b
  · subst e; simp
  · have h : ¬ (Sum.inl a : Key) = Sum.inl b:=fun q=>e (Sum.inl.inj q)
    rw [decide_eq_false h]
    exact (beq_eq_false_iff_ne.mpr e).symm
theorem key_rr (a b : Str) : decide ((Sum.inr a : Key) = Sum.inr b) = decide (a = b):=by
  by_cases e : a = b
  · subst e; simp
  · have h : ¬ (Sum.inr a : Key) = Sum.inr b:=fun q=>e (Sum.inr.inj q)
    rw [decide_eq_false h,decide_eq_false e]
theorem key_lr (a : Int) (b : Str) : decide ((Sum.inl a : Key) = Sum.inr b) = false:=decide_eq_false (fun q=>nomatch q)
theorem key_rl (a : Str) (b : Int) : decide ((Sum.inr a : Key) = Sum.inl b) = false:=decide_eq_false (fun q=>nomatch q)
def mixKind (prog : Program) (w : World) : PySem.KeyKind prog w Key where
  is:=keyIs
  hash:=keyH w
  inj:=fun v a b ha hb=>by
    rcases keyIs_shape ha with ⟨i,t,rfl,rfl⟩ | ⟨x,t,rfl,rfl⟩
    · rcases keyIs_shape hb with ⟨j,u,rfl,e⟩ | ⟨y,u,rfl,e⟩
      · injection e with e1 _; rw [e1]
      · exact nomatch e
    · rcases keyIs_shape hb with ⟨j,u,rfl,e⟩ | ⟨y,u,rfl,e⟩
      · exact nomatch e
      · injection e with e1 _; rw [e1]
  byValue:=fun k v h=>by
    rcases keyIs_shape h with ⟨i,t,rfl,rfl⟩ | ⟨x,t,rfl,rfl⟩ <;> rfl
  pyHash:=fun hv h=>by
    rcases keyIs_shape hv with ⟨i,t,rfl,rfl⟩ | ⟨x,t,rfl,rfl⟩
    · exact wpAny_pyHash_int h
    · exact wpAny_pyHash_str h
  eqBool:=fun hu hv h=>by
    rcases keyIs_shape hu with ⟨i,t,rfl,rfl⟩ | ⟨x,t,rfl,rfl⟩
    · rcases keyIs_shape hv with ⟨j,u,rfl,rfl⟩ | ⟨y,u,rfl,rfl⟩
      · rw [key_ll] at h; exact wpAny_eqBool_int h
      · rw [key_lr] at h; exact SeqAt.EqAt.int_str i t y u _ _ _ _ h
    · rcases keyIs_shape hv with ⟨j,u,rfl,rfl⟩ | ⟨y,u,rfl,rfl⟩
      · rw [key_rl] at h; exact SeqAt.EqAt.str_int x t j u _ _ _ _ h
      · rw [key_rr] at h; exact wpAny_eqBool_str h
  «strs»:=fun k x t v h=>by
    rcases keyIs_shape h with ⟨i,u,rfl,e⟩ | ⟨y,u,rfl,e⟩
    · exact nomatch e
    · injection e with e1 _
      subst e1
      cases v <;> rfl
end L2
namespace L2
open PySem PySem.Spec PyProof.Rows
inductive V where
  | non | bl (b : Bool) | int (i : Int) | str (x : Str) | byt (b : Array UInt8) | flt (b : UInt64) | ref (a : Addr) | ty (n : String)
  deriving DecidableEq
def RelV : V -> Value -> Prop
  | .non,u=>u = Value.none
  | .bl b,u=>u = Value.bool b
  | .int i,u=>∃ t,u = Value.int i t
  | .str x,u=>∃ t,u = Value.str x t
  | .byt b,u=>∃ t,u = Value.bytes b t
  | .flt b,u=>∃ t,u = Value.float b t
  | .ref a,u=>u = Value.ref a
  | .ty n,u=>u = Value.type n
abbrev Vals : List V -> List Value -> Prop:=Paired RelV
theorem Vals.length {xs : List V} {us : List Value} (r : Vals xs us) : xs.length = us.length:=Paired.length r
theorem Vals.get : ∀ {xs : List V} {us : List Value} {i : Nat} {x : V},Vals xs us -> xs[i]? = some x -> ∃ u,us[i]? = some u /\ RelV x u
  | _,_,_,_,.nil,e=>by simp at e
  | _,_,0,_,.cons r _,e=>by simp at e; subst e; exact ⟨_,rfl,r⟩
  | _,_,i + 1,x,.cons _ t,e=>by
    obtain ⟨u,h1,h2⟩:=Vals.get (i:=i) (x:=x) t (by simpa using e)
    exact ⟨u,by simpa using h1,h2⟩
theorem Vals.set {x : V} {u : Value} (r : RelV x u) : ∀ {xs : List V} {us : List Value} (i : Nat),Vals xs us -> Vals (xs.set i x) (us.set i u)
  | _,_,_,.nil=>.nil
  | _,_,0,.cons _ t=>.cons r t
  | _,_,i + 1,.cons q t=>.cons q (Vals.set r i t)
theorem Vals.append : ∀ {xs ys : List V} {us ws : List Value},Vals xs us -> Vals ys ws -> Vals (xs ++ ys) (us ++ ws)
  | _,_,_,_,.nil,s=>s
  | _,_,_,_,.cons r t,s=>.cons r (Vals.append t s)
theorem Vals.take : ∀ {xs : List V} {us : List Value} (n : Nat),Vals xs us -> Vals (xs.take n) (us.take n)
  | _,_,0,_=>.nil
  | _,_,_ + 1,.nil=>.nil
  | _,_,n + 1,.cons r t=>.cons r (Vals.take n t)
theorem Vals.drop : ∀ {xs : List V} {us : List Value} (n : Nat),Vals xs us -> Vals (xs.drop n) (us.drop n)
  | _,_,0,r=>r
  | _,_,_ + 1,.nil=>.nil
  | _,_,n + 1,.cons _ t=>Vals.drop n t
def RelO : Option V -> Option Value -> Prop
  | some v,some u=>RelV v u
  | none,none=>True
  | _,_=>False
def KV {κ : Type} : List (κ × V) -> List (κ × Value) -> Prop:=Paired fun (p : κ × V) (q : κ × Value)=>p.1 = q.1 /\ RelV p.2 q.2
def kV : Key -> V
  | .inl i=>.int i
  | .inr x=>.str x
inductive HO where
  | lst (xs : List V)
  | tup (xs : List V)
  | dK (kvs : List (Key × V)) | dT (kvs : List (List Key × V))
  | set (S : Int -> Bool) (n : Nat)
  | ins (C dx : Addr) (fs : List (Str × V))
  | own (x : Addr)
  | xd (fs : List (Str × V))
  | met (f x : Addr)
  | rng (lo hi : Int)
  | frz (o : Obj) (u : HO)
  | tbl (ps : Array Value)
  | ext (φ : Heap -> Prop)
abbrev Hp:=Addr -> Option HO
def upd (H : Hp) (a : Addr) (o : HO) : Hp:=fun b=>if b = a then some o else H b
theorem upd_same {H : Hp} {a : Addr} {o : HO} : upd H a o a = some o:=by unfold upd; rw [if_pos rfl]
theorem upd_ne {H : Hp} {a b : Addr} {o : HO} (h : b ≠ a) : upd H a o b = H b:=by unfold upd; rw [if_neg h]
theorem ne_of_none {H : Hp} {a b : Addr} {o : HO} (h : H a = some o) (h' : H b = none) : a ≠ b:=by
  intro e; subst e; rw [h] at h'; cases h'
section
variable (P : Program) (w : World)
def ObjOk (H : Hp) (h : Heap) (a : Addr) : HO -> Prop
  | .lst xs=>xs.length <= sizeLine /\ ∃ (its : List Value) (n : Nat),Vals xs its /\ h.get? a = some { cls:=.type "list",data:=.seq its.toArray n }
  | .tup xs=>xs.length <= sizeLine /\ ∃ its : List Value,Vals xs its /\ IsTup h a its.toArray
  | .dK kvs=>kvs.length <= sizeLine /\ (a == sysModules) = false /\ ∃ vs,KV kvs vs /\ h.DictOf (mixKind P w) a vs
  | .dT kvs=>kvs.length <= sizeLine /\ (a == sysModules) = false /\ ∃ xs : List (List Key × Addr × Value),
      Paired (fun (p : List Key × V) (q : List Key × Addr × Value)=>p.1 = q.1 /\ H q.2.1 = some (.tup (p.1.map kV)) /\ RelV p.2 q.2.2) kvs xs /\
      ∃ o es ep,h.get? a = some o /\ o.ExactDict /\ o.data = .dict es ep /\ es.toList = xs.map (entryOfKey (tupleKind (mixKind P w))) /\ (xs.map (·.1)).Nodup
  | .set S n=>h.SetOf (intKind P w) a S n
  | .ins C dx fs=>H dx = some (.own a) /\ fs.length <= 1000 /\ dx ≠ a /\ h.get? a = some (PySem.W.instObj C dx) /\
      ∃ mA,h.Ns1 dx mA /\ (∀ f,RelO (fs.lookup f) (mA f)) /\ PySem.Within mA (fs.map (·.1))
  | .own _=>∃ o,h.get? a = some o
  | .xd fs=>∃ mA,h.Ns1 a mA /\ ∀ f,RelO (fs.lookup f) (mA f)
  | .rng lo hi=>∃ t u v,h.get? a = some { cls:=.type "range",data:=.fields #[.int lo t,.int hi u,.int 1 v] }
  | .frz o u=>h.get? a = some o /\ ObjOk H h a u
  | .tbl ps=>h.get? a = some { cls:=.none,data:=.fields ps }
  | .met f x=>h.get? a = some (PySem.W.methodObj (.ref f) (.ref x))
  | .ext φ=>φ h /\ (∃ o,h.get? a = some o) /\ ∀ h1 h2 : Heap,φ h1 -> (∀ o,h1.get? a = some o -> h2.get? a = some o) -> φ h2
def HOk (H : Hp) (h : Heap) : Prop:=∀ a o,H a = some o -> ObjOk P w H h a o
end
section
variable {P : Program} {w : World} {H H' : Hp} {h h' : Heap} {a : Addr} {o : HO}
theorem ObjOk.lt (x : ObjOk P w H h a o) : a < h.objs.size:=by
  cases o with
  | lst xs=>obtain ⟨_,_,_,_,e⟩:=x; exact Heap.lt_size e
  | tup xs=>obtain ⟨_,_,_,p⟩:=x; exact p.lt
  | dK kvs=>obtain ⟨_,_,_,_,o,_,_,e,_⟩:=x; exact Heap.lt_size e
  | dT kvs=>obtain ⟨_,_,_,_,o,_,_,e,_⟩:=x; exact Heap.lt_size e
  | set S n=>obtain ⟨o,_,_,_,e,_⟩:=x; exact Heap.lt_size e
  | ins C dx fs=>obtain ⟨_,_,_,e,_⟩:=x; exact Heap.lt_size e
  | own y=>obtain ⟨_,e⟩:=x; exact Heap.lt_size e
  | xd fs=>obtain ⟨_,⟨_,_,_,e,_⟩,_⟩:=x; exact Heap.lt_size e
  | rng lo hi=>obtain ⟨_,_,_,e⟩:=x; exact Heap.lt_size e
  | frz ob u=>obtain ⟨e,_⟩:=x; exact Heap.lt_size e
  | tbl ps=>exact Heap.lt_size (show h.get? a = some _ from x)
  | met f y=>exact Heap.lt_size (show h.get? a = some _ from x)
  | ext φ=>obtain ⟨_,⟨_,e⟩,_⟩:=x; exact Heap.lt_size e
theorem Paired.mapP {α β : Type} {F G : α -> β -> Prop} : ∀ {l₁ : List α} {l₂ : List β},Paired F l₁ l₂ -> (∀ a b,F a b -> G a b) -> Paired G l₁ l₂
  | _,_,.nil,_=>.nil
  | _,_,.cons r t,f=>.cons (f _ _ r) (Paired.mapP t f)
theorem ObjOk.stay (x : ObjOk P w H h a o) (k : ∀ b u,(b = a \/ H b = some (.own a)) -> h.get? b = some u -> h'.get? b = some u)
    (ho : ∀ b,H b = some (.own a) -> H' b = some (.own a)) (ht : ∀ b xs,H b = some (.tup xs) -> H' b = some (.tup xs)) : ObjOk P w H' h' a o:=by
  induction o with
  | lst xs=>obtain ⟨z,its,n,r,e⟩:=x; exact ⟨z,its,n,r,k _ _ (.inl rfl) e⟩
  | tup xs=>obtain ⟨z,its,r,ob,e,c⟩:=x; exact ⟨z,its,r,ob,k _ _ (.inl rfl) e,c⟩
  | dK kvs=>obtain ⟨z,y,vs,r,ob,es,ep,e,c⟩:=x; exact ⟨z,y,vs,r,ob,es,ep,k _ _ (.inl rfl) e,c⟩
  | dT kvs=>
    obtain ⟨z,y,xs,r,ob,es,ep,e,c⟩:=x
    exact ⟨z,y,xs,Paired.mapP r fun p q z=>⟨z.1,ht _ _ z.2.1,z.2.2⟩,ob,es,ep,k _ _ (.inl rfl) e,c⟩
  | set S n=>obtain ⟨ob,es,ep,t,e,c⟩:=x; exact ⟨ob,es,ep,t,k _ _ (.inl rfl) e,c⟩
  | ins C dx fs=>
    obtain ⟨d,z,ne,e,mA,⟨od,es,ep,e2,c⟩,r⟩:=x
    exact ⟨ho _ d,z,ne,k _ _ (.inl rfl) e,mA,⟨od,es,ep,k _ _ (.inr d) e2,c⟩,r⟩
  | own y=>obtain ⟨ob,e⟩:=x; exact ⟨ob,k _ _ (.inl rfl) e⟩
  | xd fs=>obtain ⟨mA,⟨od,es,ep,e,c⟩,r⟩:=x; exact ⟨mA,⟨od,es,ep,k _ _ (.inl rfl) e,c⟩,r⟩
  | rng lo hi=>obtain ⟨t,u,v,e⟩:=x; exact ⟨t,u,v,k _ _ (.inl rfl) e⟩
  | frz ob u ih=>obtain ⟨e,q⟩:=x; exact ⟨k _ _ (.inl rfl) e,ih q⟩
  | tbl ps=>
    have e : h.get? a = some { cls:=.none,data:=.fields ps }:=x
    show h'.get? a = some { cls:=.none,data:=.fields ps }
    exact k a _ (.inl rfl) e
  | met f y=>
    have e : h.get? a = some (PySem.W.methodObj (.ref f) (.ref y)):=x
    show h'.get? a = some (PySem.W.methodObj (.ref f) (.ref y))
    exact k a _ (.inl rfl) e
  | ext φ=>obtain ⟨p,⟨o,e⟩,st⟩:=x; exact ⟨st _ _ p fun o q=>k _ _ (.inl rfl) q,⟨o,k _ _ (.inl rfl) e⟩,st⟩
theorem HOk.lt (x : HOk P w H h) (e : H a = some o) : a < h.objs.size:=(x a o e).lt
theorem HOk.fresh (x : HOk P w H h) (e : h.objs.size <= a) : H a = none:=by
  cases q : H a with
  | none=>rfl
  | some u=>exact absurd (Nat.lt_of_lt_of_le (x.lt q) e) (Nat.lt_irrefl _)
theorem HOk.kept (x : HOk P w H h) (k : ∀ b u,h.get? b = some u -> h'.get? b = some u) : HOk P w H h':=fun a o e=>
  (x a o e).stay (fun b u _ q=>k b u q) (fun _ q=>q) fun _ _ q=>q
theorem HOk.laid (x : HOk P w H h) (k : ∀ b u,h.get? b = some u -> h'.get? b = some u) (hp : h.objs.size <= a) (new : ObjOk P w (upd H a o) h' a o) : HOk P w (upd H a o) h':=fun b u e=>by
  have hn:=x.fresh hp
  by_cases hb : b = a
  · subst hb; rw [upd_same] at e; cases e; exact new
  · rw [upd_ne hb] at e
    exact (x b u e).stay (fun c v _ q=>k c v q) (fun c q=>by rw [upd_ne (ne_of_none q hn)]; exact q) fun c xs q=>by rw [upd_ne (ne_of_none q hn)]; exact q
end
def Rd (H : Hp) (a : Addr) (u : HO) : Prop:=H a = some u \/ ∃ o,H a = some (.frz o u)
theorem Rd.ok {P : Program} {w : World} {H : Hp} {h : Heap} {a : Addr} {u : HO} (r : Rd H a u) (x : HOk P w H h) : ObjOk P w H h a u:=by
  rcases r with r | ⟨o,r⟩
  · exact x a u r
  · obtain ⟨_,q⟩:=x a _ r
    exact q
def Mut : Option HO -> Prop
  | some (.lst _)=>True
  | some (.dK _)=>True
  | some (.dT _)=>True
  | some (.set _ _)=>True
  | some (.ins _ _ _)=>True
  | some (.ext _)=>True
  | _=>False
section
variable {P : Program} {w : World} {H : Hp} {h h' : Heap} {x e : Addr} {o' : HO}
theorem HOk.write (ok : HOk P w H h) (mu : Mut (H x)) (he : e = x \/ H e = some (.own x)) (k : ∀ b u,b ≠ e -> h.get? b = some u -> h'.get? b = some u) (heo : ∃ u,h'.get? e = some u)
    (new : ObjOk P w (upd H x o') h' x o') : HOk P w (upd H x o') h':=fun b u q=>by
  have nown : ∀ c y,H c = some (.own y) -> c ≠ x:=fun c y r z=>by subst z; rw [r] at mu; exact mu
  have ntup : ∀ c xs,H c = some (.tup xs) -> c ≠ x:=fun c xs r z=>by subst z; rw [r] at mu; exact mu
  by_cases hb : b = x
  · subst hb; rw [upd_same] at q; cases q; exact new
  · rw [upd_ne hb] at q
    by_cases hbe : b = e
    · have q' : H b = some (.own x):=by
        rcases he with z | z
        · exact absurd (hbe.trans z) hb
        · rw [hbe]; exact z
      rw [q] at q'; cases q'
      obtain ⟨v,hv⟩:=heo
      exact ⟨v,by rw [hbe]; exact hv⟩
    · refine (ok b u q).stay (fun c v hc r=>k c v ?_ r) (fun c r=>by rw [upd_ne (nown c b r)]; exact r) fun c xs r=>by rw [upd_ne (ntup c xs r)]; exact r
      rcases hc with rfl | hc
      · exact hbe
      · rintro rfl
        rcases he with z | z
        · exact nown c b hc z
        · rw [hc] at z; cases z; exact hb rfl
end
structure Un (fs ex : List Addr) (H H' : Hp) (h h' : Heap) : Prop where
  keep : ∀ b o,h.get? b = some o -> H b = none -> b ∉ fs -> b ∉ ex -> h'.get? b = some o
  slot : ∀ b o,h.get? b = some o -> H b = none -> b ∈ fs -> b ∉ ex -> ∃ sl,h'.get? b = some { o with slots:=sl }
  free : ∀ b o,h.get? b = some o -> H b = none -> b ∉ ex -> H' b = none
  there : ∀ b o,h.get? b = some o -> b ∉ ex -> ∃ o',h'.get? b = some o'
  tups : ∀ b xs,H b = some (.tup xs) -> H' b = some (.tup xs)
  frzs : ∀ b o u,H b = some (.frz o u) -> H' b = some (.frz o u)
  tbls : ∀ b ps,H b = some (.tbl ps) -> ∃ more,H' b = some (.tbl (ps ++ more))
section
variable {fs fs' ex ex' : List Addr} {H H1 H2 : Hp} {h h1 h2 h' : Heap} {a x e : Addr} {o : HO}
theorem Un.any (u : Un fs ex H H1 h h1) {b : Addr} {ob : Obj} (q : h.get? b = some ob) (n : H b = none) (hx : b ∉ ex) : ∃ sl,h1.get? b = some { ob with slots:=sl }:=by
  by_cases hb : b ∈ fs
  · exact u.slot b ob q n hb hx
  · exact ⟨ob.slots,u.keep b ob q n hb hx⟩
theorem Un.kept (k : ∀ b u,h.get? b = some u -> h'.get? b = some u) : Un fs ex H H h h':=
  ⟨fun b ob q _ _ _=>k b ob q,fun b ob q _ _ _=>⟨ob.slots,k b ob q⟩,fun _ _ _ n _=>n,fun b ob q _=>⟨ob,k b ob q⟩,fun _ _ q=>q,fun _ _ _ q=>q,fun _ ps q=>⟨#[],by rw [q]; simp⟩⟩
theorem Un.refl : Un fs ex H H h h:=Un.kept fun _ _ q=>q
theorem Un.laid (k : ∀ b u,h.get? b = some u -> h'.get? b = some u) (hp : h.objs.size <= a) (hn : H a = none) : Un fs ex H (upd H a o) h h' where
  keep:=fun b u q _ _ _=>k b u q
  slot:=fun b u q _ _ _=>⟨u.slots,k b u q⟩
  free:=fun b u q n _=>by rw [upd_ne (Nat.ne_of_lt (Nat.lt_of_lt_of_le (Heap.lt_size q) hp))]; exact n
  there:=fun b u q _=>⟨u,k b u q⟩
  tups:=fun b xs q=>by rw [upd_ne (ne_of_none q hn)]; exact q
  frzs:=fun b u xs q=>by rw [upd_ne (ne_of_none q hn)]; exact q
  tbls:=fun b ps q=>⟨#[],by rw [upd_ne (ne_of_none q hn),q]; simp⟩
theorem Un.write (mu : Mut (H x)) (he : e = x \/ H e = some (.own x)) (k : ∀ b u,b ≠ e -> h.get? b = some u -> h'.get? b = some u) (heo : ∃ u,h'.get? e = some u) : Un fs ex H (upd H x o) h h':=by
  have hx : ∀ b,H b = none -> b ≠ x:=fun b n z=>by subst z; rw [n] at mu; exact mu
  have hb : ∀ b,H b = none -> b ≠ e:=fun b n z=>by
    subst z
    rcases he with r | r
    · exact hx b n r
    · rw [n] at r; cases r
  have hm : ∀ b u,H b = some u -> ¬ Mut (some u) -> b ≠ x:=fun b u q nm z=>by subst z; rw [q] at mu; exact nm mu
  refine ⟨fun b u q n _ _=>k b u (hb b n) q,fun b u q n _ _=>⟨u.slots,k b u (hb b n) q⟩,fun b u q n _=>by rw [upd_ne (hx b n)]; exact n,fun b u q _=>?_,
    fun b xs q=>by rw [upd_ne (hm b _ q fun z=>z)]; exact q,fun b u xs q=>by rw [upd_ne (hm b _ q fun z=>z)]; exact q,fun b ps q=>⟨#[],by rw [upd_ne (hm b _ q fun z=>z),q]; simp⟩⟩
  by_cases hbe : b = e
  · subst hbe; exact heo
  · exact ⟨u,k b u hbe q⟩
end
def trk (h : Heap) (H : Hp) : List Addr:=(List.range h.objs.size).filter fun a=>(H a).isSome
def hidT (h : Heap) (H : Hp) : Heap:=PySem.W.hideAll h (trk h H)
theorem hidT_size (h : Heap) (H : Hp) : (hidT h H).objs.size = h.objs.size:=PySem.W.hideAll_size _ _
theorem hidT_get {h : Heap} {H : Hp} {b : Addr} {o : Obj} (e : h.get? b = some o) (n : H b = none) : (hidT h H).get? b = some o:=
  PySem.W.hideAll_get _ e fun hm=>by
    have q : (H b).isSome = true:=(List.mem_filter.mp hm).2
    rw [n] at q; simp at q
theorem of_hidT {h : Heap} {H : Hp} {b : Addr} {o : Obj} (e : (hidT h H).get? b = some o) : h.get? b = some o /\ H b = none:=by
  have e' : h.get? b = some o:=PySem.W.of_hideAll (trk h H) e
  refine ⟨e',?_⟩
  cases q : H b with
  | none=>rfl
  | some x=>
    have hm : b ∈ trk h H:=List.mem_filter.mpr ⟨List.mem_range.mpr (Heap.lt_size e'),by simp [q]⟩
    have z : (hidT h H).get? b = none:=PySem.W.hideAll_none (trk h H) hm
    rw [z] at e; cases e
def allNews (g h : Heap) (L : Addr) : List (Addr × Obj):=(List.range h.objs.size).filterMap fun a=>if a = L \/ (g.get? a).isSome = true then none else (h.get? a).map fun o=>(a,o)
def rest (g h : Heap) (L d : Addr) : List (Addr × Obj):=(allNews g h L).filter fun p=>decide (p.1 ≠ d)
end L2
namespace L2
open PySem PySem.Spec PyProof.Rows
structure Mod (K : PySem.W.Frag) (mg : Str -> Option Value) (base : Heap) : Prop where
  kin : K.In base
  glob : base.Ns mainGlobals mg
  blt : ∃ mb,base.Ns builtinsNs mb /\ ∀ x : Str,x ≠ "__name__" -> mb x = bootBuiltins x
  nolimit : base.NoLimit
structure Cx where
  prog : Program
  w : World
  K : PySem.W.Frag
  mg : Str -> Option Value
  base : Heap
  A : Around
  N : List Str
  s₀ : Shared
  H₀ : Hp
  env : Env
  outer : List Env
  stack : List Env
  ex : List Addr
  fn : Str -> Bool
  calm : Bool
  pn : List (Addr × Obj)
  xe : Value -> Shared -> Prop
def frs (l : List Env) : List Addr:=l.filterMap (·.frame)
abbrev Cx.fs (X : Cx) : List Addr:=frs X.outer
def Vis (sc : Scope) (x : Str) : Prop:=sc.names.lookup x = some .local \/ sc.names.lookup x = some .cell \/ sc.names.lookup x = some .free
def Loc (sc : Scope) (x : Str) : Prop:=sc.names.lookup x = some .local \/ sc.names.lookup x = some .cell
def Look (env : Env) (h : Heap) (m : Str -> Option Value) (x : Str) (u : Value) : Prop:=
  (env.kindOf x = some .local /\ m x = some u) \/ ((env.kindOf x = some .cell \/ env.kindOf x = some .free) /\ ∃ c,env.cells.lookup x = some c /\ h.IsCell c (some u))
structure Cx.Ok (X : Cx) : Prop where
  mod : Mod X.K X.mg X.base
  kind : X.env.scope.kind = .function
  glob : X.env.globals = mainGlobals
  blt : X.env.builtins = builtinsNs
  above : X.s₀.heap.objs.size <= X.env.locals
  inj : ∀ x y c,X.env.cells.lookup x = some c -> X.env.cells.lookup y = some c -> x = y
  has : ∀ x,(X.env.kindOf x = some .cell \/ X.env.kindOf x = some .free) -> ∃ c,X.env.cells.lookup x = some c
  cab : ∀ x c,X.fn x = true -> X.env.cells.lookup x = some c -> X.s₀.heap.objs.size <= c
  hd : X.calm = true -> X.A.handled = none
  frames : X.A.frames = some X.stack
  stk : X.stack = X.outer \/ (X.stack = X.env :: X.outer /\ X.env.frame = some X.env.locals)
  exf : ∀ b ∈ X.ex,b ≠ X.env.locals /\ ∀ x c,X.env.cells.lookup x = some c -> c ≠ b
  bs : ∀ b o,X.base.get? b = some o -> X.s₀.heap.get? b = some o /\ X.H₀ b = none
  bsz : X.base.objs.size <= X.s₀.heap.objs.size
  noex : ∀ b o,X.base.get? b = some o -> b ∉ X.ex
  exfs : ∀ b ∈ X.ex,b ∉ X.fs
  funs : X.s₀.heap.FunFrames X.base X.outer
  frf : ∀ b ∈ X.fs,X.H₀ b = none
structure Inv (X : Cx) (pins : List (Addr × Obj)) (σ : List (Option V)) (H : Hp) (s : Shared) : Prop where
  ok : X.Ok
  os : s.os = X.s₀.os
  bare : AllBare s.gens
  base : Un X.fs X.ex X.H₀ H X.s₀.heap s.heap
  loc : ∃ m,s.heap.Ns X.env.locals m /\ ∀ (i : Nat) (x : Str) (v : V),X.N[i]? = some x -> σ[i]? = some (some v) -> Vis X.env.scope x -> ∃ u,RelV v u /\ Look X.env s.heap m x u
  cell : ∀ x c,X.env.cells.lookup x = some c -> ∃ v,s.heap.IsCell c v
  free : H X.env.locals = none
  freeC : ∀ x c,X.env.cells.lookup x = some c -> H c = none
  pin : ∀ p ∈ X.pn ++ pins,s.heap.get? p.1 = some p.2 /\ H p.1 = none /\ p.1 ≠ X.env.locals /\ p.1 ∉ X.fs /\ ∀ v,p.2.data ≠ .cell v
  hok : HOk X.prog X.w H s.heap
  len : σ.length = X.N.length
section
variable {X : Cx} {pins : List (Addr × Obj)} {σ : List (Option V)} {H H' : Hp} {s : Shared} {h' : Heap}
theorem Cx.Ok.nofr (ok : X.Ok) {b : Addr} {o : Obj} (e : X.base.get? b = some o) : b ∉ X.fs:=fun hb=>by
  have:=(ok.funs.mem hb).1
  rw [e] at this; cases this
theorem Inv.bs (I : Inv X pins σ H s) : ∀ b o,X.base.get? b = some o -> s.heap.get? b = some o /\ H b = none:=fun b o e=>
  ⟨I.base.keep b o (I.ok.bs b o e).1 (I.ok.bs b o e).2 (I.ok.nofr e) (I.ok.noex b o e),I.base.free b o (I.ok.bs b o e).1 (I.ok.bs b o e).2 (I.ok.noex b o e)⟩
theorem Inv.bk (I : Inv X pins σ H s) : ∀ b o,X.base.get? b = some o -> s.heap.get? b = some o:=fun b o e=>(I.bs b o e).1
theorem Inv.mod (I : Inv X pins σ H s) : Mod X.K X.mg X.base:=I.ok.mod
theorem Inv.kIn (I : Inv X pins σ H s) : X.K.In s.heap:=I.ok.mod.kin.keeps I.bk
theorem Inv.lt (I : Inv X pins σ H s) : X.env.locals < s.heap.objs.size:=let ⟨_,hn,_⟩:=I.loc; hn.lt
theorem Inv.sz (I : Inv X pins σ H s) : X.s₀.heap.objs.size <= s.heap.objs.size:=Nat.le_trans I.ok.above (Nat.le_of_lt I.lt)
theorem Inv.nofs (I : Inv X pins σ H s) {a : Addr} (h : s.heap.objs.size <= a) : a ∉ X.fs:=fun hb=>by
  obtain ⟨_,o,ho,_⟩:=I.ok.funs.mem hb
  exact absurd (Nat.lt_of_lt_of_le (Heap.lt_size ho) (Nat.le_trans I.sz h)) (Nat.lt_irrefl _)
theorem Inv.cne (I : Inv X pins σ H s) : ∀ x c,X.env.cells.lookup x = some c -> c ≠ X.env.locals:=fun x c e z=>by
  obtain ⟨v,o,ho,hd⟩:=I.cell x c e
  obtain ⟨m,⟨o',es,ep,ho',hd',_⟩,_⟩:=I.loc
  rw [z,ho'] at ho; cases ho; rw [hd'] at hd; cases hd
theorem Inv.funs (I : Inv X pins σ H s) : s.heap.FunFrames X.base X.outer:=by
  have all : ∀ (l : List Env),(∀ b ∈ frs l,b ∈ X.fs) -> X.s₀.heap.FunFrames X.base l -> s.heap.FunFrames X.base l:=by
    intro l
    induction l with
    | nil=>intro _ _; trivial
    | cons env r ih=>
      intro hs hl
      obtain ⟨hk,⟨L,o,hf,hn,ho,hd⟩,hr⟩:=hl
      have hL : L ∈ X.fs:=hs L (by unfold frs; rw [List.filterMap_cons,hf]; exact List.mem_cons_self)
      obtain ⟨sl,e⟩:=I.base.slot L o ho (I.ok.frf L hL) hL fun z=>I.ok.exfs L z hL
      exact ⟨hk,⟨L,_,hf,hn,e,hd⟩,ih (fun b hb=>hs b (by unfold frs; rw [List.filterMap_cons,hf]; exact List.mem_cons_of_mem _ hb)) hr⟩
  exact all X.outer (fun _ hb=>hb) I.ok.funs
theorem Inv.stack (I : Inv X pins σ H s) : s.heap.FunFrames X.base X.stack:=by
  rcases I.ok.stk with e | ⟨e,hf⟩
  · rw [e]; exact I.funs
  · rw [e]
    obtain ⟨m,hn,_⟩:=I.loc
    refine .cons (by rw [I.ok.kind]; decide) hf hn ?_ I.funs
    exact Heap.get?_none_of_le (Nat.le_trans I.ok.bsz I.ok.above)
theorem Inv.stkSub (I : Inv X pins σ H s) : ∀ b ∈ frs X.stack,b ∈ X.env.locals :: X.fs:=fun b hb=>by
  rcases I.ok.stk with e | ⟨e,hf⟩
  · rw [e] at hb; exact List.mem_cons_of_mem _ hb
  · rw [e] at hb
    unfold frs at hb
    rw [List.filterMap_cons,hf] at hb
    exact hb
theorem Inv.stkFree (I : Inv X pins σ H s) : ∀ b ∈ frs X.stack,H b = none:=fun b hb=>by
  rcases List.mem_cons.mp (I.stkSub b hb) with e | hb
  · rw [e]; exact I.free
  · obtain ⟨_,o,ho,_⟩:=I.ok.funs.mem hb
    exact I.base.free b o ho (I.ok.frf b hb) fun z=>I.ok.exfs b z hb
theorem Inv.step {g' : Array GenState} {t' : Nat} {d' : Drawn} {ch : List Addr} (I : Inv X pins σ H s)
    (hch : ∀ b ∈ ch,(b ∈ X.ex \/ X.s₀.heap.objs.size <= b) /\ b ≠ X.env.locals /\ (∀ x c,X.env.cells.lookup x = some c -> c ≠ b) /\ ∀ p ∈ X.pn ++ pins,p.1 ≠ b)
    (keep : ∀ b o,b ≠ X.env.locals -> b ∉ X.fs -> b ∉ ch -> s.heap.get? b = some o -> H b = none -> h'.get? b = some o)
    (slot : ∀ b o,b ≠ X.env.locals -> b ∈ X.fs -> b ∉ ch -> s.heap.get? b = some o -> H b = none -> ∃ sl,h'.get? b = some { o with slots:=sl }) (free : ∀ b o,b ∉ ch -> s.heap.get? b = some o -> H b = none -> H' b = none)
    (there : ∀ b o,b ∉ ch -> s.heap.get? b = some o -> ∃ o',h'.get? b = some o')
    (tups : ∀ b xs,H b = some (.tup xs) -> H' b = some (.tup xs)) (frzs : ∀ b o u,H b = some (.frz o u) -> H' b = some (.frz o u)) (tbls : ∀ b ps,H b = some (.tbl ps) -> ∃ more,H' b = some (.tbl (ps ++ more)))
    (ns : ∀ m,s.heap.Ns X.env.locals m -> h'.Ns X.env.locals m) (hok : HOk X.prog X.w H' h') (hg : AllBare g') :
    Inv X pins σ H' { s with heap:=h',gens:=g',drawn:=d',toks:=t' }:=by
  have neL : ∀ b o,X.s₀.heap.get? b = some o -> b ≠ X.env.locals:=fun b o e=>Nat.ne_of_lt (Nat.lt_of_lt_of_le (Heap.lt_size e) I.ok.above)
  have neC : ∀ b o,X.s₀.heap.get? b = some o -> b ∉ X.ex -> b ∉ ch:=fun b o e hx hb=>by
    rcases (hch b hb).1 with z | z
    · exact hx z
    · exact absurd (Nat.lt_of_lt_of_le (Heap.lt_size e) z) (Nat.lt_irrefl _)
  have cellK : ∀ x c,X.env.cells.lookup x = some c -> ∀ v,s.heap.IsCell c v -> h'.IsCell c v:=fun x c e v ⟨o,ho,hd⟩=>by
    have nch : c ∉ ch:=fun z=>(hch c z).2.2.1 x c e rfl
    by_cases hc : c ∈ X.fs
    · obtain ⟨sl,q⟩:=slot c o (I.cne x c e) hc nch ho (I.freeC x c e)
      exact ⟨_,q,hd⟩
    · exact ⟨o,keep c o (I.cne x c e) hc nch ho (I.freeC x c e),hd⟩
  refine ⟨I.ok,I.os,hg,⟨fun b o e n hb hx=>?_,fun b o e n hb hx=>?_,fun b o e n hx=>?_,fun b o e hx=>?_,fun b xs e=>tups b xs (I.base.tups b xs e),fun b o xs e=>frzs b o xs (I.base.frzs b o xs e),fun b ps e=>?_⟩,?_,fun x c e=>?_,?_,fun x c e=>?_,fun p hp=>?_,hok,I.len⟩
  · exact keep b o (neL b o e) hb (neC b o e hx) (I.base.keep b o e n hb hx) (I.base.free b o e n hx)
  · obtain ⟨sl,e1⟩:=I.base.slot b o e n hb hx
    obtain ⟨sl',e2⟩:=slot b _ (neL b o e) hb (neC b o e hx) e1 (I.base.free b o e n hx)
    exact ⟨sl',e2⟩
  · obtain ⟨o',e1⟩:=I.base.there b o e hx
    exact free b o' (neC b o e hx) e1 (I.base.free b o e n hx)
  · obtain ⟨o',e1⟩:=I.base.there b o e hx
    exact there b o' (neC b o e hx) e1
  · obtain ⟨m1,e1⟩:=I.base.tbls b ps e
    obtain ⟨m2,e2⟩:=tbls b _ e1
    exact ⟨m1 ++ m2,by rw [e2,Array.append_assoc]⟩
  · obtain ⟨m,hn,hl⟩:=I.loc
    refine ⟨m,ns m hn,fun i x v e1 e2 e3=>?_⟩
    obtain ⟨u,r,l⟩:=hl i x v e1 e2 e3
    refine ⟨u,r,?_⟩
    rcases l with l | ⟨k,c,e,z⟩
    · exact .inl l
    · exact .inr ⟨k,c,e,cellK x c e _ z⟩
  · obtain ⟨v,z⟩:=I.cell x c e
    exact ⟨v,cellK x c e v z⟩
  · obtain ⟨m,⟨o,_,_,ho,_⟩,_⟩:=I.loc
    exact free _ o (fun z=>(hch _ z).2.1 rfl) ho I.free
  · obtain ⟨v,o,ho,hd⟩:=I.cell x c e
    exact free c o (fun z=>(hch c z).2.2.1 x c e rfl) ho (I.freeC x c e)
  · obtain ⟨e,n,ne,nf,d⟩:=I.pin p hp
    have nch : p.1 ∉ ch:=fun z=>(hch p.1 z).2.2.2 p hp rfl
    exact ⟨keep p.1 p.2 ne nf nch e n,free p.1 p.2 nch e n,ne,nf,d⟩
theorem Inv.un {t' : Nat} (I : Inv X pins σ H s) (u : Un X.fs [] H H' s.heap h') (hok : HOk X.prog X.w H' h') : Inv X pins σ H' { s with heap:=h',toks:=t' }:=by
  obtain ⟨m,⟨o,es,ep,ho,r⟩,_⟩:=id I.loc
  obtain ⟨sl,hL⟩:=u.any ho I.free (by simp)
  exact I.step (g':=s.gens) (d':=s.drawn) (ch:=[]) (fun _ z=>nomatch z) (fun b o _ hb _ e n=>u.keep b o e n hb (by simp)) (fun b o _ hb _ e n=>u.slot b o e n hb (by simp)) (fun b o _ e n=>u.free b o e n (by simp)) (fun b o _ e=>u.there b o e (by simp)) u.tups u.frzs u.tbls (fun m' hm=>by
    obtain ⟨o',es',ep',ho',r'⟩:=hm
    rw [ho] at ho'; cases ho'
    exact ⟨_,es',ep',hL,r'⟩) hok I.bare
theorem Inv.call {g' : Array GenState} {t' : Nat} {d' : Drawn} {ch : List Addr} (I : Inv X pins σ H s) (u : Un (frs X.stack) ch H H' s.heap h') (hok : HOk X.prog X.w H' h') (hg : AllBare g')
    (hch : ∀ b ∈ ch,(b ∈ X.ex \/ X.s₀.heap.objs.size <= b) /\ b ≠ X.env.locals /\ (∀ x c,X.env.cells.lookup x = some c -> c ≠ b) /\ ∀ p ∈ X.pn ++ pins,p.1 ≠ b) :
    Inv X pins σ H' { s with heap:=h',gens:=g',drawn:=d',toks:=t' }:=by
  obtain ⟨m,⟨o,es,ep,ho,r⟩,_⟩:=id I.loc
  obtain ⟨sl,hL⟩:=u.any ho I.free fun z=>(hch _ z).2.1 rfl
  exact I.step (ch:=ch) hch (fun b o hL hb hc e n=>u.keep b o e n (fun z=>(List.mem_cons.mp (I.stkSub b z)).elim hL hb) hc) (fun b o _ _ hc e n=>u.any e n hc) (fun b o hc e n=>u.free b o e n hc) (fun b o hc e=>u.there b o e hc) u.tups u.frzs u.tbls (fun m' hm=>by
    obtain ⟨o',es',ep',ho',r'⟩:=hm
    rw [ho] at ho'; cases ho'
    exact ⟨_,es',ep',hL,r'⟩) hok hg
theorem Inv.turned {t' : Nat} {it : Addr} (I : Inv X pins σ H s) (k : ∀ b o,b ≠ it -> s.heap.get? b = some o -> h'.get? b = some o) (hn : H it = none) (hL : it ≠ X.env.locals)
    (h1 : it ∈ X.ex \/ X.s₀.heap.objs.size <= it) (h2 : ∀ x c,X.env.cells.lookup x = some c -> c ≠ it) (h3 : ∀ p ∈ X.pn ++ pins,p.1 ≠ it) : Inv X pins σ H { s with heap:=h',toks:=t' }:=by
  have nit : ∀ b u,H b = some u -> b ≠ it:=fun b u e z=>by rw [z,hn] at e; cases e
  refine I.step (g':=s.gens) (d':=s.drawn) (ch:=[it]) (fun b hb=>?_) (fun b o _ _ hc e _=>k b o (fun z=>hc (by simp [z])) e) (fun b o _ _ hc e _=>⟨o.slots,k b o (fun z=>hc (by simp [z])) e⟩) (fun _ _ _ _ n=>n)
    (fun b o hc e=>⟨o,k b o (fun z=>hc (by simp [z])) e⟩) (fun _ _ e=>e) (fun _ _ _ e=>e) (fun b ps e=>⟨#[],by rw [e]; simp⟩) (fun m hm=>?_) (fun b u e=>?_) I.bare
  · have e : b = it:=by simpa using hb
    subst e
    exact ⟨h1,hL,h2,h3⟩
  · obtain ⟨o,es,ep,ho,r⟩:=hm
    exact ⟨o,es,ep,k _ o (Ne.symm hL) ho,r⟩
  · refine (I.hok b u e).stay (fun c v hc q=>k c v ?_ q) (fun _ q=>q) fun _ _ q=>q
    rcases hc with z | z
    · rw [z]; exact nit b u e
    · exact nit c _ z
theorem Inv.tok (I : Inv X pins σ H s) (t : Nat) : Inv X pins σ H { s with toks:=t }:=I.un (h':=s.heap) (t':=t) Un.refl I.hok
theorem Inv.kept {t' : Nat} (I : Inv X pins σ H s) (k : ∀ b u,s.heap.get? b = some u -> h'.get? b = some u) : Inv X pins σ H { s with heap:=h',toks:=t' }:=I.un (Un.kept k) (I.hok.kept k)
theorem Inv.laid {a : Addr} {o : HO} {t' : Nat} (I : Inv X pins σ H s) (k : ∀ b u,s.heap.get? b = some u -> h'.get? b = some u) (hp : s.heap.objs.size <= a) (new : ObjOk X.prog X.w (upd H a o) h' a o) :
    Inv X pins σ (upd H a o) { s with heap:=h',toks:=t' }:=I.un (Un.laid k hp (I.hok.fresh hp)) (I.hok.laid k hp new)
theorem Inv.write {x e : Addr} {o : HO} {t' : Nat} (I : Inv X pins σ H s) (mu : Mut (H x)) (he : e = x \/ H e = some (.own x)) (k : ∀ b u,b ≠ e -> s.heap.get? b = some u -> h'.get? b = some u) (heo : ∃ u,h'.get? e = some u)
    (new : ObjOk X.prog X.w (upd H x o) h' x o) : Inv X pins σ (upd H x o) { s with heap:=h',toks:=t' }:=I.un (Un.write mu he k heo) (I.hok.write mu he k heo new)
theorem Inv.pins_of {pins' : List (Addr × Obj)} (I : Inv X pins σ H s) (h : ∀ p ∈ pins',s.heap.get? p.1 = some p.2 /\ H p.1 = none /\ p.1 ≠ X.env.locals /\ p.1 ∉ X.fs /\ ∀ v,p.2.data ≠ .cell v) : Inv X pins' σ H s:=
  ⟨I.ok,I.os,I.bare,I.base,I.loc,I.cell,I.free,I.freeC,fun p hp=>(List.mem_append.mp hp).elim (fun z=>I.pin p (List.mem_append_left _ z)) (h p),I.hok,I.len⟩
theorem nodup_ix {N : List Str} (hN : N.Nodup) {i j : Nat} {x : Str} (a : N[i]? = some x) (b : N[j]? = some x) : i = j:=by
  obtain ⟨h1,e1⟩:=List.getElem?_eq_some_iff.mp a
  obtain ⟨h2,e2⟩:=List.getElem?_eq_some_iff.mp b
  exact (List.getElem_inj hN).mp (e1.trans e2.symm)
theorem store_ok2 {M : Model} {A : Around} {E : Value -> Shared -> Prop} {i : Nat} {x : Str} {v : V} {u : Value} {Q : Unit -> Shared -> Prop} (I : Inv X pins σ H s) (hN : X.N.Nodup) (hi : X.N[i]? = some x) (hx : Loc X.env.scope x) (r : RelV v u)
    (h : ∀ s',Inv X pins (σ.set i (some v)) H s' -> (∃ a,Heap.SameBut a s.heap s'.heap /\ (a = X.env.locals \/ X.env.cells.lookup x = some a)) -> Q () s') (hf : X.fn x = true \/ X.env.scope.names.lookup x = some .local:=by first | exact .inl rfl | exact .inr rfl | assumption) : wpAny M A (storeName X.env x u) Q E s:=by
  obtain ⟨m,hn,hl⟩:=id I.loc
  have hcls : (X.env.scope.kind == .class || (X.env.scope.kind == .module && X.env.locals != X.env.globals)) = false:=by rw [I.ok.kind]; rfl
  have hiσ : i < σ.length:=by rw [I.len]; exact (List.getElem?_eq_some_iff.mp hi).1
  have cne:=I.cne
  have tracked : ∀ {a : Addr} {h' : Heap},(∃ o,s.heap.get? a = some o /\ H a = none) -> Heap.SameBut a s.heap h' -> HOk X.prog X.w H h':=fun {a h'} ha hs b ob e=>by
    obtain ⟨_,_,hfree⟩:=ha
    refine (I.hok b ob e).stay (fun c w' hc q=>(hs.2 c ?_).trans q) (fun _ q=>q) fun _ _ q=>q
    rintro rfl
    rcases hc with rfl | hc
    · rw [hfree] at e; cases e
    · rw [hfree] at hc; cases hc
  rcases hx with hk | hk
  · refine wpAny_storeName_local hk hn (fun h' hn' hs=>?_) hcls
    obtain ⟨oL,_,_,hoL,_⟩:=id hn
    refine h _ ⟨I.ok,I.os,I.bare,⟨fun b o e n hb hx=>?_,fun b o e n hb hx=>?_,I.base.free,fun b o e hx=>?_,I.base.tups,I.base.frzs,I.base.tbls⟩,⟨_,hn',fun j y v' e1 e2 e3=>?_⟩,fun y c e=>?_,I.free,I.freeC,fun p hp=>?_,tracked ⟨oL,hoL,I.free⟩ hs,by simpa using I.len⟩ ⟨_,hs,.inl rfl⟩
    · exact (hs.2 b (Nat.ne_of_lt (Nat.lt_of_lt_of_le (Heap.lt_size e) I.ok.above))).trans (I.base.keep b o e n hb hx)
    · obtain ⟨sl,e1⟩:=I.base.slot b o e n hb hx
      exact ⟨sl,(hs.2 b (Nat.ne_of_lt (Nat.lt_of_lt_of_le (Heap.lt_size e) I.ok.above))).trans e1⟩
    · obtain ⟨o',e1⟩:=I.base.there b o e hx
      exact ⟨o',(hs.2 b (Nat.ne_of_lt (Nat.lt_of_lt_of_le (Heap.lt_size e) I.ok.above))).trans e1⟩
    · by_cases hj : j = i
      · subst hj
        rw [hi] at e1; cases e1
        rw [List.getElem?_set_self hiσ] at e2
        cases e2
        exact ⟨u,r,.inl ⟨hk,by simp⟩⟩
      · rw [List.getElem?_set_ne (Ne.symm hj)] at e2
        obtain ⟨u',r',q⟩:=hl j y v' e1 e2 e3
        refine ⟨u',r',?_⟩
        rcases q with ⟨k,e⟩ | ⟨k,c,e,z⟩
        · refine .inl ⟨k,?_⟩
          have : y ≠ x:=fun e=>hj (nodup_ix hN e1 (e ▸ hi))
          simp [this,e]
        · exact .inr ⟨k,c,e,z.sameBut hs (cne y c e)⟩
    · obtain ⟨w',z⟩:=I.cell y c e
      exact ⟨w',z.sameBut hs (cne y c e)⟩
    · obtain ⟨e,n,ne,nf,d⟩:=I.pin p hp
      exact ⟨(hs.2 p.1 ne).trans e,n,ne,nf,d⟩
  · have hfn : X.fn x = true:=by
      rcases hf with z | z
      · exact z
      · rw [z] at hk; cases hk
    obtain ⟨c,hc⟩:=I.ok.has x (.inl hk)
    obtain ⟨w',z⟩:=I.cell x c hc
    refine wpAny_storeName_cell I.ok.kind hk hc z (fun h' hc' hs=>?_)
    obtain ⟨oc,hoc,hocd⟩:=id z
    refine h { s with heap:=h' } ⟨I.ok,I.os,I.bare,⟨fun b o e n hb hx=>?_,fun b o e n hb hx=>?_,I.base.free,fun b o e hx=>?_,I.base.tups,I.base.frzs,I.base.tbls⟩,⟨m,hn.sameBut hs (Ne.symm (cne x c hc)),fun j y v' e1 e2 e3=>?_⟩,fun y c' e=>?_,I.free,I.freeC,fun p hp=>?_,tracked ⟨oc,hoc,I.freeC x c hc⟩ hs,by simpa using I.len⟩ ⟨c,hs,.inr hc⟩
    · exact (hs.2 b (Nat.ne_of_lt (Nat.lt_of_lt_of_le (Heap.lt_size e) (I.ok.cab x c hfn hc)))).trans (I.base.keep b o e n hb hx)
    · obtain ⟨sl,e1⟩:=I.base.slot b o e n hb hx
      exact ⟨sl,(hs.2 b (Nat.ne_of_lt (Nat.lt_of_lt_of_le (Heap.lt_size e) (I.ok.cab x c hfn hc)))).trans e1⟩
    · obtain ⟨o',e1⟩:=I.base.there b o e hx
      exact ⟨o',(hs.2 b (Nat.ne_of_lt (Nat.lt_of_lt_of_le (Heap.lt_size e) (I.ok.cab x c hfn hc)))).trans e1⟩
    · by_cases hj : j = i
      · subst hj
        rw [hi] at e1; cases e1
        rw [List.getElem?_set_self hiσ] at e2
        cases e2
        exact ⟨u,r,.inr ⟨.inl hk,c,hc,hc'⟩⟩
      · rw [List.getElem?_set_ne (Ne.symm hj)] at e2
        obtain ⟨u',r',q⟩:=hl j y v' e1 e2 e3
        refine ⟨u',r',?_⟩
        rcases q with q | ⟨k,c',e,z'⟩
        · exact .inl q
        · refine .inr ⟨k,c',e,z'.sameBut hs ?_⟩
          rintro rfl
          exact hj (nodup_ix hN e1 (I.ok.inj _ _ _ e hc ▸ hi))
    · by_cases hcc : c' = c
      · subst hcc; exact ⟨_,hc'⟩
      · obtain ⟨w2,z2⟩:=I.cell y c' e
        exact ⟨w2,z2.sameBut hs hcc⟩
    · obtain ⟨e,n,ne,nf,d⟩:=I.pin p hp
      refine ⟨(hs.2 p.1 ?_).trans e,n,ne,nf,d⟩
      intro q
      rw [q,hoc] at e
      have q' : oc = p.2:=Option.some.inj e
      exact d w' (by rw [<- q']; exact hocd)
theorem store_ok {M : Model} {A : Around} {E : Value -> Shared -> Prop} {i : Nat} {x : Str} {v : V} {u : Value} {Q : Unit -> Shared -> Prop} (I : Inv X pins σ H s) (hN : X.N.Nodup) (hi : X.N[i]? = some x) (hx : Loc X.env.scope x) (r : RelV v u)
    (h : ∀ s',Inv X pins (σ.set i (some v)) H s' -> Q () s') (hf : X.fn x = true \/ X.env.scope.names.lookup x = some .local:=by first | exact .inl rfl | exact .inr rfl | assumption) : wpAny M A (storeName X.env x u) Q E s:=
  store_ok2 I hN hi hx r (fun s' I' _=>h s' I') hf
theorem Inv.call' {s' : Shared} {ch : List Addr} (I : Inv X pins σ H s) (ho : s'.os = s.os) (u : Un (frs X.stack) ch H H' s.heap s'.heap) (hok : HOk X.prog X.w H' s'.heap) (hg : AllBare s'.gens)
    (hch : ∀ b ∈ ch,(b ∈ X.ex \/ X.s₀.heap.objs.size <= b) /\ b ≠ X.env.locals /\ (∀ x c,X.env.cells.lookup x = some c -> c ≠ b) /\ ∀ p ∈ X.pn ++ pins,p.1 ≠ b) : Inv X pins σ H' s':=by
  obtain ⟨h',g',d',t',o'⟩:=s'
  have e : o' = s.os:=ho
  subst e
  exact I.call (g':=g') (t':=t') (d':=d') u hok hg hch
end
abbrev XK:=Value -> Option Addr -> Hp -> Prop
abbrev St:=List (Option V)
abbrev VK:=V -> Hp -> Prop
abbrev TE:=St -> Hp -> VK -> Prop
abbrev TT:=St -> Hp -> (Bool -> Hp -> Prop) -> Prop
abbrev TA:=St -> Hp -> (List V -> Hp -> Prop) -> Prop
structure Ends where
  nx : St -> Hp -> Prop
  rt : VK
  bk : St -> Hp -> Prop:=fun _ _=>False
  ct : St -> Hp -> Prop:=fun _ _=>False
abbrev TS:=Ends -> St -> Hp -> Prop
def EP (X : Cx) (pins : List (Addr × Obj)) (σ : St) (Q : VK) (u : Value) (s' : Shared) : Prop:=∃ v H',Inv X pins σ H' s' /\ RelV v u /\ Q v H'
def TP (X : Cx) (pins : List (Addr × Obj)) (σ : St) (Q : Bool -> Hp -> Prop) (b : Bool) (s' : Shared) : Prop:=∃ H',Inv X pins σ H' s' /\ Q b H'
def AP (X : Cx) (pins : List (Addr × Obj)) (σ : St) (Q : List V -> Hp -> Prop) (us : List Value) (s' : Shared) : Prop:=∃ vs H',Inv X pins σ H' s' /\ Vals vs us /\ Q vs H'
def SP (X : Cx) (pins : List (Addr × Obj)) (D : Ends) (f : Flow) (s' : Shared) : Prop:=
  match f with
  | .next=>∃ σ' H',Inv X pins σ' H' s' /\ D.nx σ' H'
  | .brk=>∃ σ' H',Inv X pins σ' H' s' /\ D.bk σ' H'
  | .cont=>∃ σ' H',Inv X pins σ' H' s' /\ D.ct σ' H'
  | .ret u=>∃ v σ' H',Inv X pins σ' H' s' /\ RelV v u /\ D.rt v H'
def PE (X : Cx) (e : Expr) (t : TE) : Prop:=
  ∀ (pins : List (Addr × Obj)) (s : Shared) (σ : St) (H : Hp) (Q : VK),Inv X pins σ H s -> t σ H Q -> wpAny (model X.prog X.w) X.A (eval e X.env) (EP X pins σ Q) X.xe s
def PT (X : Cx) (e : Expr) (t : TT) : Prop:=
  ∀ (pins : List (Addr × Obj)) (s : Shared) (σ : St) (H : Hp) (Q : Bool -> Hp -> Prop),Inv X pins σ H s -> t σ H Q -> wpAny (model X.prog X.w) X.A (isTrue e X.env (eval e X.env)) (TP X pins σ Q) X.xe s
def PW (X : Cx) (e : Expr) (t : TT) : Prop:=
  ∀ (whole : Sem Value) (pins : List (Addr × Obj)) (s : Shared) (σ : St) (H : Hp) (Q : Bool -> Hp -> Prop),Inv X pins σ H s -> t σ H Q -> wpAny (model X.prog X.w) X.A (isTrue e X.env whole) (TP X pins σ Q) X.xe s
theorem PW.pt {X : Cx} {e : Expr} {t : TT} (h : PW X e t) : PT X e t:=h _
def PA (X : Cx) (es : List Expr) (t : TA) : Prop:=
  ∀ (pos : Pos) (pins : List (Addr × Obj)) (s : Shared) (σ : St) (H : Hp) (Q : List V -> Hp -> Prop),Inv X pins σ H s -> t σ H Q -> wpAny (model X.prog X.w) X.A (spliced (backTo pos (starEach es X.env))) (AP X pins σ Q) X.xe s
def PS (X : Cx) (st : Stmt) (t : TS) : Prop:=
  ∀ (pins : List (Addr × Obj)) (s : Shared) (σ : St) (H : Hp) (D : Ends),Inv X pins σ H s -> t D σ H -> wpAny (model X.prog X.w) X.A (exec st X.env) (SP X pins D) X.xe s
def PSs (X : Cx) (st : List Stmt) (t : TS) : Prop:=
  ∀ (pins : List (Addr × Obj)) (s : Shared) (σ : St) (H : Hp) (D : Ends),Inv X pins σ H s -> t D σ H -> wpAny (model X.prog X.w) X.A (execs st X.env) (SP X pins D) X.xe s
theorem thn {α : Type} {t : Sem α} {Q Q' : α -> Shared -> Prop} {M : Model} {A : Around} {E : Value -> Shared -> Prop} {s : Shared} (h : wpAny M A t Q E s) (hQ : ∀ a s,Q a s -> Q' a s) : wpAny M A t Q' E s:=wpAny_mono h hQ fun _ _ x=>x
end L2
namespace L2
open PySem PySem.Spec PyProof.Rows
section
variable {X : Cx}
def tVar (i : Nat) : TE:=fun σ H Q=>∃ v,σ[i]? = some (some v) /\ Q v H
def tC (v : V) : TE:=fun _ H Q=>Q v H
theorem pe_var {i : Nat} {x : Str} {pos : Pos} (hN : X.N[i]? = some x) (hv : Vis X.env.scope x) (hd : (x == ("__debug__" : Str)) = false:=by decide) (hcd : (x == ("__classdict__" : Str)) = false:=by decide) : PE X (.Name x pos) (tVar i):=by
  intro pins s σ H Q I h
  obtain ⟨v,e,h⟩:=h
  obtain ⟨m,hn,hl⟩:=I.loc
  obtain ⟨u,r,l⟩:=hl i x v hN e hv
  have fin : EP X pins σ Q u s:=⟨v,H,I,r,h⟩
  rcases l with ⟨hk,hm⟩ | ⟨hk,c,hc,hcell⟩
  · exact wpAny_Name (wpAny_loadName_local I.ok.kind hk hn hm fin) hd
  · rcases hk with hk | hk
    · exact wpAny_Name (wpAny_loadName_cell I.ok.kind hk hc hcell fin) hd
    · exact wpAny_Name (wpAny_loadName_free I.ok.kind hk hc hcell fin hcd) hd
theorem pe_int {i j pos} : PE X (.Constant (.int i) j pos) (tC (.int i)):=fun _ _ _ H _ I h=>wpAny_Constant_int ⟨.int i,H,I.tok _,⟨_,rfl⟩,h⟩
theorem pe_bl {b j pos} : PE X (.Constant (.bool b) j pos) (tC (.bl b)):=fun _ _ _ H _ I h=>Constant_bool ⟨.bl b,H,I,rfl,h⟩
theorem pe_non {j pos} : PE X (.Constant .none j pos) (tC .non):=fun _ _ _ H _ I h=>Constant_none ⟨.non,H,I,rfl,h⟩
theorem pe_str {x j pos} : PE X (.Constant (.str x) j pos) (tC (.str x)):=fun _ _ _ H _ I h=>Calls.Constant_str ⟨.str x,H,I.tok _,⟨_,rfl⟩,h⟩
def Gl (X : Cx) (x : Str) : Prop:=X.env.kindOf x = some .globalImplicit
theorem ld_glob {E : Value -> Shared -> Prop} {pins : List (Addr × Obj)} {s : Shared} {σ : St} {H : Hp} {x : Str} {u : Value} {pos : Pos} {Q : Value -> Shared -> Prop} (I : Inv X pins σ H s) (hg : Gl X x) (hm : X.mg x = some u) (h : Q u s)
    (hd : (x == ("__debug__" : Str)) = false:=by decide) : wpAny (model X.prog X.w) X.A (eval (.Name x pos) X.env) Q E s:=
  Calls.Name_function_global I.ok.kind hg (Calls.loadGlobal_global (by rw [I.ok.glob]; exact I.mod.glob.keeps I.bk) hm h) hd
theorem ld_blt {E : Value -> Shared -> Prop} {pins : List (Addr × Obj)} {s : Shared} {σ : St} {H : Hp} {x : Str} {u : Value} {pos : Pos} {Q : Value -> Shared -> Prop} (I : Inv X pins σ H s) (hg : Gl X x) (hm : X.mg x = none) (hv : bootBuiltins x = some u) (h : Q u s)
    (hn : x ≠ "__name__" := by decide) (hd : (x == ("__debug__" : Str)) = false:=by decide) : wpAny (model X.prog X.w) X.A (eval (.Name x pos) X.env) Q E s:=by
  obtain ⟨mb,h1,h2⟩:=I.mod.blt
  exact Calls.Name_function_global I.ok.kind hg (Calls.loadGlobal_builtin (by rw [I.ok.glob]; exact I.mod.glob.keeps I.bk) hm (by rw [I.ok.blt]; exact h1.keeps I.bk) ((h2 x hn).trans hv) h) hd
theorem pe_glob {x : Str} {v : V} {u : Value} {pos : Pos} (hg : Gl X x) (hm : X.mg x = some u) (r : RelV v u) (hd : (x == ("__debug__" : Str)) = false:=by decide) : PE X (.Name x pos) (tC v):=
  fun _ _ _ H _ I h=>ld_glob I hg hm ⟨v,H,I,r,h⟩ hd
theorem pe_bltn {x : Str} {v : V} {u : Value} {pos : Pos} (hg : Gl X x) (hm : X.mg x = none) (hv : bootBuiltins x = some u) (r : RelV v u) (hn : x ≠ "__name__" := by decide) (hd : (x == ("__debug__" : Str)) = false:=by decide) : PE X (.Name x pos) (tC v):=
  fun _ _ _ H _ I h=>ld_blt I hg hm hv ⟨v,H,I,r,h⟩ hn hd
variable {a b : Expr} {ta tb : TE} {pos : Pos}
def tB (t : TE) : TT:=fun σ H Q=>t σ H fun x H1=>∃ c,x = .bl c /\ Q c H1
theorem pt_val {e : Expr} {t : TE} (h : PE X e t) (he : ∀ whole,isTrue e X.env whole = (do let v <- whole; standAt e.pos; holding [v] (truthy v)):=by intro _; rfl) : PT X e (tB t):=by
  intro pins s σ H Q I hw
  refine isTrue_plain (thn (h pins s σ H _ I hw) fun v s1 ⟨x,H1,I1,r1,q1⟩=>?_) (he _)
  obtain ⟨d,rfl,q⟩:=q1
  cases r1
  exact wpAny_truthy_bool ⟨H1,I1,q⟩
variable {tA tB' : TT} {rest : List Expr}
def tAnd (t u : TT) : TT:=fun σ H Q=>t σ H fun c H1=>if c = true then u σ H1 Q else Q false H1
def tOr (t u : TT) : TT:=fun σ H Q=>t σ H fun c H1=>if c = true then Q true H1 else u σ H1 Q
def tNot (t : TT) : TT:=fun σ H Q=>t σ H fun c H1=>Q (!c) H1
theorem pw_and1 (ha : PT X a tA) : PW X (.BoolOp .And [a] pos) tA:=by
  intro wh pins s σ H Q I h
  refine isTrue_and (thn (ha pins s σ H Q I h) fun c s1 e=>?_)
  cases c with
  | true=>exact isTrue_and_nil e
  | false=>exact e
theorem pw_or1 (ha : PT X a tA) : PW X (.BoolOp .Or [a] pos) tA:=by
  intro wh pins s σ H Q I h
  refine isTrue_or (thn (ha pins s σ H Q I h) fun c s1 e=>?_)
  cases c with
  | false=>exact isTrue_or_nil e
  | true=>exact e
theorem pw_and (ha : PT X a tA) (hb : PW X (.BoolOp .And (b :: rest) pos) tB') : PW X (.BoolOp .And (a :: b :: rest) pos) (tAnd tA tB'):=by
  intro wh pins s σ H Q I h
  refine isTrue_and (thn (ha pins s σ H _ I h) fun c s1 ⟨H1,I1,q1⟩=>?_)
  cases c with
  | true=>exact hb wh pins s1 σ H1 Q I1 q1
  | false=>exact ⟨H1,I1,q1⟩
theorem pw_or (ha : PT X a tA) (hb : PW X (.BoolOp .Or (b :: rest) pos) tB') : PW X (.BoolOp .Or (a :: b :: rest) pos) (tOr tA tB'):=by
  intro wh pins s σ H Q I h
  refine isTrue_or (thn (ha pins s σ H _ I h) fun c s1 ⟨H1,I1,q1⟩=>?_)
  cases c with
  | true=>exact ⟨H1,I1,q1⟩
  | false=>exact hb wh pins s1 σ H1 Q I1 q1
theorem pt_not (ha : PT X a tA) : PT X (.UnaryOp .Not a pos) (tNot tA):=by
  intro pins s σ H Q I h
  exact isTrue_not (ha pins s σ H (fun c H1=>Q (!c) H1) I h)
def tAndV (ta tb : TE) : TE:=fun σ H Q=>ta σ H fun x H1=>∃ c,x = .bl c /\ if c = true then tb σ H1 Q else Q (.bl false) H1
def tNotV (ta : TE) : TE:=fun σ H Q=>ta σ H fun x H1=>∃ c,x = .bl c /\ Q (.bl (!c)) H1
theorem pe_one {op} {t : TE} (h : PE X a t) : PE X (.BoolOp op [a] pos) t:=fun pins s σ H Q I hw=>BoolOp_one (h pins s σ H Q I hw)
theorem pe_and (ha : PE X a ta) (hb : PE X (.BoolOp .And (b :: rest) pos) tb) : PE X (.BoolOp .And (a :: b :: rest) pos) (tAndV ta tb):=by
  intro pins s σ H Q I h
  refine BoolOp_and (thn (ha pins s σ H _ I h) fun v s1 ⟨x,H1,I1,r1,q1⟩=>?_)
  obtain ⟨c,rfl,q1⟩:=q1
  cases r1
  refine wpAny_truthy_bool ?_
  cases c with
  | true=>exact hb pins s1 σ H1 Q I1 q1
  | false=>exact ⟨.bl false,H1,I1,rfl,q1⟩
theorem pe_not (ha : PE X a ta) : PE X (.UnaryOp .Not a pos) (tNotV ta):=by
  intro pins s σ H Q I h
  refine UnaryOp_ (thn (ha pins s σ H _ I h) fun v s1 ⟨x,H1,I1,r1,q1⟩=>?_)
  obtain ⟨c,rfl,q1⟩:=q1
  cases r1
  exact not_of (wpAny_truthy_bool ⟨.bl (!c),H1,I1,rfl,q1⟩)
end
end L2
namespace L2
open PySem PySem.Spec PyProof.Rows
def SqL (K : PySem.W.Frag) (H : Hp) (a : Addr) (xs : List V) : Prop:=
  Rd H a (.lst xs) \/
    ∃ (o : Obj) (its : Array Value) (n : Nat),K.lookup a = some o /\ o.cls = .type "list" /\ o.dict = none /\ o.data = .seq its n /\ its.size <= sizeLine /\ Vals xs its.toList
def SqT (K : PySem.W.Frag) (H : Hp) (a : Addr) (xs : List V) : Prop:=
  Rd H a (.tup xs) \/
    ∃ (o : Obj) (its : Array Value) (n : Nat),K.lookup a = some o /\ o.cls = .type "tuple" /\ o.data = .seq its n /\ its.size <= sizeLine /\ Vals xs its.toList
def absV : Value -> Option V
  | .none=>some .non
  | .bool b=>some (.bl b)
  | .int i _=>some (.int i)
  | .str x _=>some (.str x)
  | .bytes b _=>some (.byt b)
  | .float b _=>some (.flt b)
  | .ref a=>some (.ref a)
  | .type n=>some (.ty n)
  | _=>none
theorem RelV.abs {x : V} {u : Value} (r : RelV x u) : absV u = some x:=by
  cases x with
  | non=>cases r; rfl
  | bl _=>cases r; rfl
  | int _=>obtain ⟨t,rfl⟩:=r; rfl
  | str _=>obtain ⟨t,rfl⟩:=r; rfl
  | byt _=>obtain ⟨t,rfl⟩:=r; rfl
  | flt _=>obtain ⟨t,rfl⟩:=r; rfl
  | ref _=>cases r; rfl
  | ty _=>cases r; rfl
theorem RelV.inj {x y : V} {u : Value} (r : RelV x u) (q : RelV y u) : x = y:=Option.some.inj (r.abs.symm.trans q.abs)
theorem Vals.inj : ∀ {xs ys : List V} {us : List Value},Vals xs us -> Vals ys us -> xs = ys
  | _,_,_,.nil,.nil=>rfl
  | _,_,_,.cons r t,.cons r' t'=>by rw [r.inj r',Vals.inj t t']
section
variable {X : Cx} {pins : List (Addr × Obj)} {σ : St} {H : Hp} {s : Shared} {a : Addr} {xs ys : List V}
theorem SqL.of {K : PySem.W.Frag} (h : H a = some (.lst xs)) : SqL K H a xs:=.inl (.inl h)
theorem SqT.of {K : PySem.W.Frag} (h : H a = some (.tup xs)) : SqT K H a xs:=.inl (.inl h)
theorem Inv.list (I : Inv X pins σ H s) (h : SqL X.K H a xs) : ∃ its : List Value,Vals xs its /\ PlainL s.heap a its.toArray /\ xs.length <= sizeLine:=by
  rcases h with h | ⟨o,its,n,hk,hc,hd,hs,hz,r⟩
  · obtain ⟨z,its,n,r,e⟩:=h.ok I.hok
    exact ⟨its,r,⟨_,n,e,rfl,rfl,rfl⟩,z⟩
  · refine ⟨its.toList,r,⟨o,n,I.kIn a o hk,hc,hd,by simpa using hs⟩,?_⟩
    have e:=r.length
    simp only [Array.length_toList] at e
    omega
theorem Inv.tuple (I : Inv X pins σ H s) (h : SqT X.K H a xs) : ∃ its : List Value,Vals xs its /\ IsTup s.heap a its.toArray /\ xs.length <= sizeLine:=by
  rcases h with h | ⟨o,its,n,hk,hc,hs,hz,r⟩
  · obtain ⟨z,its,r,p⟩:=h.ok I.hok
    exact ⟨its,r,p,z⟩
  · refine ⟨its.toList,r,⟨o,I.kIn a o hk,hc,n,by simpa using hs⟩,?_⟩
    have e:=r.length
    simp only [Array.length_toList] at e
    omega
theorem Inv.list_inj (I : Inv X pins σ H s) (h : SqL X.K H a xs) (h' : SqL X.K H a ys) : xs = ys:=by
  obtain ⟨its,r,⟨o,n,e,_,_,d⟩,_⟩:=I.list h
  obtain ⟨its',r',⟨o',n',e',_,_,d'⟩,_⟩:=I.list h'
  rw [e] at e'; cases e'
  rw [d] at d'
  injection d' with d1 _
  have : its = its':=by simpa using congrArg Array.toList d1
  subst this
  exact r.inj r'
theorem Inv.tuple_inj (I : Inv X pins σ H s) (h : SqT X.K H a xs) (h' : SqT X.K H a ys) : xs = ys:=by
  obtain ⟨its,r,⟨o,e,_,n,d⟩,_⟩:=I.tuple h
  obtain ⟨its',r',⟨o',e',_,n',d'⟩,_⟩:=I.tuple h'
  rw [e] at e'; cases e'
  rw [d] at d'
  injection d' with d1 _
  have : its = its':=by simpa using congrArg Array.toList d1
  subst this
  exact r.inj r'
end
section
variable {X : Cx} {pins : List (Addr × Obj)} {σ : St} {H : Hp} {s : Shared} {E : Value -> Shared -> Prop}
end
section
variable {X : Cx} {st : Stmt} {rest : List Stmt} {t u : TS} {e : Expr} {te : TE} {pos : Pos}
def tNext : TS:=fun D σ H=>D.nx σ H
def tSeq (t u : TS) : TS:=fun D σ H=>t { D with nx:=u D } σ H
theorem pss_nil : PSs X [] tNext:=fun _ _ σ H _ I h=>wpAny_execs_nil ⟨σ,H,I,h⟩
theorem pss_cons (h1 : PS X st t) (h2 : PSs X rest u) : PSs X (st :: rest) (tSeq t u):=by
  intro pins s σ H D I h
  refine wpAny_execs_cons (thn (h1 pins s σ H { D with nx:=u D } I h) fun f s1 q=>?_)
  cases f with
  | next=>
    obtain ⟨σ',H',I',q⟩:=q
    exact h2 pins s1 σ' H' D I' q
  | ret v=>exact q
  | brk=>exact q
  | cont=>exact q
theorem pss_one (h1 : PS X st t) : PSs X [st] t:=by
  intro pins s σ H D I h
  refine wpAny_execs_cons (thn (h1 pins s σ H D I h) fun f s1 q=>?_)
  cases f with
  | next=>exact wpAny_execs_nil q
  | ret v=>exact q
  | brk=>exact q
  | cont=>exact q
theorem Inv.quiet {pins : List (Addr × Obj)} {σ : St} {H : Hp} {s : Shared} (I : Inv X pins σ H s) : interactive X.env = false:=by simp [interactive,I.ok.kind]
def tDrop (te : TE) : TS:=fun D σ H=>te σ H fun _ H1=>D.nx σ H1
theorem ps_expr (he : PE X e te) (hs : swapsWith e none pos.line X.env = pure false:=by rfl) : PS X (.Expr e pos) (tDrop te):=by
  intro pins s σ H D I h
  exact wpAny_Expr_any (thn (he pins s σ H _ I h) fun v s1 ⟨x,H1,I1,r1,q1⟩=>⟨σ,H1,I1,q1⟩) I.quiet hs
def tRet (te : TE) : TS:=fun D σ H=>te σ H D.rt
theorem ps_ret (he : PE X e te) : PS X (.Return (some e) pos) (tRet te):=by
  intro pins s σ H D I h
  exact wpAny_Return_some (thn (he pins s σ H _ I h) fun v s1 ⟨x,H1,I1,r1,q1⟩=>⟨x,σ,H1,I1,r1,q1⟩)
def tIfS (c : TT) (t u : TS) : TS:=fun D σ H=>c σ H fun b H1=>if b = true then t D σ H1 else u D σ H1
theorem ps_if {c : Expr} {a b : List Stmt} {tc : TT} (hc : PT X c tc) (ha : PSs X a t) (hb : PSs X b u) : PS X (.If c a b pos) (tIfS tc t u):=by
  intro pins s σ H D I h
  refine wpAny_If (thn (hc pins s σ H _ I h) fun d s1 ⟨H1,I1,q1⟩=>?_)
  cases d with
  | true=>exact ha pins s1 σ H1 D I1 q1
  | false=>exact hb pins s1 σ H1 D I1 q1
end
abbrev TG:=V -> St -> Hp -> (St -> Hp -> Prop) -> Prop
abbrev TGs:=List V -> St -> Hp -> (St -> Hp -> Prop) -> Prop
def PG (X : Cx) (target : Expr) (t : TG) : Prop:=
  ∀ (pins : List (Addr × Obj)) (s : Shared) (σ : St) (H : Hp) (v : V) (u : Value) (Q : St -> Hp -> Prop),Inv X pins σ H s -> RelV v u -> t v σ H Q ->
    wpAny (model X.prog X.w) X.A (assign target X.env u) (fun _ s'=>∃ σ' H',Inv X pins σ' H' s' /\ Q σ' H') X.xe s
def PGs (X : Cx) (ts : List Expr) (t : TGs) : Prop:=
  ∀ (pins : List (Addr × Obj)) (s : Shared) (σ : St) (H : Hp) (vs : List V) (us : List Value) (Q : St -> Hp -> Prop),Inv X pins σ H s -> Vals vs us -> t vs σ H Q ->
    wpAny (model X.prog X.w) X.A (assignInOrder ((assignEach ts X.env).map (·.2)) us) (fun _ s'=>∃ σ' H',Inv X pins σ' H' s' /\ Q σ' H') X.xe s
abbrev TSet:=V -> V -> V -> Hp -> (Hp -> Prop) -> Prop
def PSet (X : Cx) (t : TSet) : Prop:=
  ∀ (pins : List (Addr × Obj)) (s : Shared) (σ : St) (H : Hp) (o i v : V) (ov iv u : Value) (Q : Hp -> Prop),Inv X pins σ H s -> RelV o ov -> RelV i iv -> RelV v u -> t o i v H Q ->
    wpAny (model X.prog X.w) X.A (setItem ov iv u) (fun _ s'=>∃ H',Inv X pins σ H' s' /\ Q H') X.xe s
section
variable {X : Cx} {pos : Pos}
def gName (i : Nat) : TG:=fun v σ H Q=>Q (σ.set i (some v)) H
theorem pg_name {i : Nat} {x : Str} (hN : X.N.Nodup) (hi : X.N[i]? = some x) (hx : Loc X.env.scope x) (hf : X.fn x = true \/ X.env.scope.names.lookup x = some .local:=by first | exact .inl rfl | exact .inr rfl | assumption) : PG X (.Name x pos) (gName i):=by
  intro pins s σ H v u Q I r h
  exact wpAny_assign_Name (store_ok I hN hi hx r (fun s' I'=>⟨_,H,I',h⟩) hf)
def gNil : TGs:=fun vs σ H Q=>vs = [] /\ Q σ H
def gCons (t : TG) (u : TGs) : TGs:=fun vs σ H Q=>∃ v r,vs = v :: r /\ t v σ H fun σ' H'=>u r σ' H' Q
theorem pgs_nil : PGs X [] gNil:=by
  intro pins s σ H vs us Q I r h
  obtain ⟨e,h⟩:=h
  subst e
  cases r
  exact assignInOrder_nil ⟨σ,H,I,h⟩
theorem pgs_cons {e : Expr} {es : List Expr} {t : TG} {u : TGs} (h1 : PG X e t) (h2 : PGs X es u)
    (hs : (assignEach (e :: es) X.env).map (·.2) = assign e X.env :: (assignEach es X.env).map (·.2):=by rfl) : PGs X (e :: es) (gCons t u):=by
  intro pins s σ H vs us Q I r h
  obtain ⟨v,vr,e1,h⟩:=h
  subst e1
  cases r with
  | cons r rr=>
    rw [hs]
    refine assignInOrder_cons (thn (h1 pins s σ H _ _ _ I r h) fun _ s1 ⟨σ1,H1,I1,q1⟩=>?_)
    exact h2 pins s1 σ1 H1 _ _ Q I1 rr q1
def gTup (K : PySem.W.Frag) (n : Nat) (t : TGs) : TG:=fun v σ H Q=>∃ a xs,v = .ref a /\ SqT K H a xs /\ xs.length = n /\ t xs σ H Q
theorem pg_tup {es : List Expr} {k : Nat} {t : TGs} {n : Nat} (hc : X.calm = true) (h : PGs X es t)
    (hn : (assignEach es X.env).length = n:=by rfl) (hst : (assignEach es X.env).findIdx? (·.1) = none:=by rfl) : PG X (.Tuple es k pos) (gTup X.K n t):=by
  intro pins s σ H v u Q I r hw
  obtain ⟨a,xs,e1,hq,hl,hw⟩:=hw
  subst e1
  cases r
  obtain ⟨its,rv,ht,hz⟩:=I.tuple hq
  refine assign_Tuple_tuple (I.ok.hd hc) ht (by simp [hn,<- hl,rv.length]) hst fun h' hx=>?_
  have I1 : Inv X pins σ H { s with heap:=h' }:=I.kept (t':=s.toks) fun b o e=>hx b o (Nat.ne_of_lt (Heap.lt_size e)) e
  exact h pins _ σ H xs _ Q I1 (by simpa using rv) hw
def gSub (to ti : TE) (t : TSet) : TG:=fun v σ H Q=>to σ H fun o H1=>ti σ H1 fun i H2=>t o i v H2 fun H3=>Q σ H3
theorem pg_sub {o i : Expr} {to ti : TE} {t : TSet} (ho : PE X o to) (hi : PE X i ti) (hs : PSet X t)
    (ha : ∀ v,assign (.Subscript o i pos) X.env v = (do
      let ov <- holding [v] (eval o X.env)
      let iv <- holding [v,ov] (eval i X.env)
      standAt pos
      holding [v,ov,iv] (setItem ov iv v)
      release [v,ov,iv] []):=by intro _; rfl) : PG X (.Subscript o i pos) (gSub to ti t):=by
  intro pins s σ H v u Q I r h
  rw [ha]
  refine wpAny_bind (wpAny_holding (thn (ho pins s σ H _ I h) fun ov s1 ⟨x,H1,I1,r1,q1⟩=>?_))
  refine wpAny_bind (wpAny_holding (thn (hi pins s1 σ H1 _ I1 q1) fun iv s2 ⟨y,H2,I2,r2,q2⟩=>?_))
  refine wpAny_bind (wpAny_standAt (wpAny_bind (wpAny_holding (thn (hs pins s2 σ H2 x y v ov iv u _ I2 r1 r2 r q2) fun _ s3 ⟨H3,I3,q3⟩=>?_))))
  exact wpAny_release ⟨σ,H3,I3,q3⟩
def tAsg (te : TE) (g : TG) : TS:=fun D σ H=>te σ H fun x H1=>g x σ H1 D.nx
theorem ps_asg {tg e : Expr} {te : TE} {g : TG} (he : PE X e te) (hg : PG X tg g) (hs : swapsWithSole [tg] e pos.line X.env = pure false:=by rfl) (hw : swappedStores [tg] e X.env = pure none:=by rfl)
    (h1 : (assignEach [tg] X.env).map (·.2) = [assign tg X.env]:=by rfl) : PS X (.Assign [tg] e pos) (tAsg te g):=by
  intro pins s σ H D I h
  refine wpAny_Assign_stores (thn (he pins s σ H _ I h) fun v s1 ⟨x,H1,I1,r1,q1⟩=>?_) hs hw
  rw [h1]
  exact thn (hg pins s1 σ H1 x v _ I1 r1 q1) fun _ s2 q=>q
theorem ps_set {i : Nat} {x : Str} {e : Expr} {te : TE} {pos' : Pos} (hN : X.N.Nodup) (hi : X.N[i]? = some x) (hx : Loc X.env.scope x) (he : PE X e te) (hs : swapsWith e (some (.Name x pos')) pos.line X.env = pure false:=by rfl) (hf : X.fn x = true \/ X.env.scope.names.lookup x = some .local:=by first | exact .inl rfl | exact .inr rfl | assumption) :
    PS X (.Assign [.Name x pos'] e pos) (tAsg te (gName i)):=by
  intro pins s σ H D I h
  refine wpAny_Assign_Name (thn (he pins s σ H _ I h) fun v s1 ⟨y,H1,I1,r1,q1⟩=>?_) hs
  exact store_ok I1 hN hi hx r1 (fun s2 I2=>⟨_,H1,I2,q1⟩) hf
end
section
variable {X : Cx} {pos : Pos}
end
structure It where
  go : Nat -> Hp -> Prop
  yld : Nat -> Hp -> V -> Hp -> Prop
  stop : Nat -> Hp -> Prop
def FpOk (X : Cx) (pins : List (Addr × Obj)) (H : Hp) (b : Addr) : Prop:=
  H b = none /\ b ≠ X.env.locals /\ b ∉ X.fs /\ (b ∈ X.ex \/ X.s₀.heap.objs.size <= b) /\ (∀ x c,X.env.cells.lookup x = some c -> c ≠ b) /\ ∀ p ∈ X.pn ++ pins,p.1 ≠ b
theorem Inv.fpOk {X : Cx} {pins : List (Addr × Obj)} {σ : St} {H H' : Hp} {s : Shared} {b : Addr} (I : Inv X pins σ H s) (hb : s.heap.objs.size <= b) (hn : H' b = none) : FpOk X pins H' b:=by
  refine ⟨hn,Nat.ne_of_gt (Nat.lt_of_lt_of_le I.lt hb),I.nofs hb,.inr (Nat.le_trans I.sz hb),fun x c e z=>?_,fun p hp z=>?_⟩
  · obtain ⟨v,q⟩:=I.cell x c e
    exact absurd (Nat.lt_of_lt_of_le q.lt (by rw [z]; exact hb)) (Nat.lt_irrefl _)
  · exact absurd (Nat.lt_of_lt_of_le (Heap.lt_size (I.pin p hp).1) (by rw [z]; exact hb)) (Nat.lt_irrefl _)
structure Turn (P : Program) (w : World) (K : PySem.W.Frag) (tg : Expr) (J : It) (fp : List Addr) (it : Addr) (tn : Nat -> Heap -> Prop) : Prop where
  mem : it ∈ fp
  obj : ∀ i h,tn i h -> ∀ b ∈ fp,∃ o,h.get? b = some o /\ ∀ v,o.data ≠ .cell v
  keep : ∀ i h h',tn i h -> (∀ b ∈ fp,∀ o,h.get? b = some o -> h'.get? b = some o) -> tn i h'
  item : ∀ (X : Cx),X.prog = P -> X.w = w -> X.K = K -> X.calm = true -> ∀ (i : Nat) (pins : List (Addr × Obj)) (s : Shared) (σ : St) (H : Hp) (E : Value -> Shared -> Prop),Inv X pins σ H s -> (∀ b ∈ fp,FpOk X pins H b) -> tn i s.heap -> J.go i H ->
    wpAny (model P w) X.A (pyNext (.ref it)) (fun r s1=>∃ u,r = some u /\
      wpAny (model P w) X.A (letOwnedTupleGo tg (.ref it) u) (fun _ s2=>∃ x H',Inv X pins σ H' s2 /\ RelV x u /\ J.yld i H x H' /\ tn (i + 1) s2.heap /\ ∀ b ∈ fp,H' b = none) E s1) E s
  done : ∀ (X : Cx),X.prog = P -> X.w = w -> X.K = K -> X.calm = true -> ∀ (i : Nat) (pins : List (Addr × Obj)) (s : Shared) (σ : St) (H : Hp) (E : Value -> Shared -> Prop),Inv X pins σ H s -> (∀ b ∈ fp,FpOk X pins H b) -> tn i s.heap -> J.stop i H ->
    wpAny (model P w) X.A (pyNext (.ref it)) (fun r s1=>r = none /\ Inv X pins σ H s1) E s
  self : ∀ (A : Around) (i : Nat) (s : Shared) (Q : Value -> Shared -> Prop) (E : Value -> Shared -> Prop),tn i s.heap -> Q (.ref it) s -> wpAny (model P w) A (pyIter (.ref it)) Q E s
abbrev TI:=St -> Hp -> (It -> Hp -> Prop) -> Prop
def PIE (X : Cx) (pins : List (Addr × Obj)) (σ : St) (tg : Expr) (R : It -> Hp -> Prop) (itv : Value) (s2 : Shared) : Prop:=
  ∃ (it : Addr) (fp : List Addr) (tn : Nat -> Heap -> Prop) (J : It) (H' : Hp),itv = .ref it /\ Inv X pins σ H' s2 /\ Turn X.prog X.w X.K tg J fp it tn /\ tn 0 s2.heap /\ (∀ b ∈ fp,FpOk X pins H' b) /\ R J H'
def PI (X : Cx) (tg iter : Expr) (wi : TI) : Prop:=
  ∀ (pins : List (Addr × Obj)) (s : Shared) (σ : St) (H : Hp) (R : It -> Hp -> Prop),Inv X pins σ H s -> wi σ H R ->
    wpAny (model X.prog X.w) X.A (eval iter X.env) (fun v s1=>wpAny (model X.prog X.w) X.A (pyIter v) (PIE X pins σ tg R) X.xe s1) X.xe s
theorem go_of {M : Model} {A : Around} {E : Value -> Shared -> Prop} {s : Shared} {tg : Expr} {it : Addr} {u : Value} {o : Obj} {n : String} {vs : Array Value} {Q : Unit -> Shared -> Prop} (ho : s.heap.get? it = some o) (hc : o.cls = .type n) (hd : o.data = .fields vs)
    (hn : ["enumerate", "zip", "dict_itemiterator", "dict_reverseitemiterator", "odict_iterator", "itertools.zip_longest", "itertools.pairwise"].contains n = false) (hQ : Q () s) : wpAny M A (letOwnedTupleGo tg (.ref it) u) Q E s:=by
  unfold letOwnedTupleGo
  cases tg <;> first
    | exact wpAny_pure hQ
    | (cases u <;> first
        | exact wpAny_pure hQ
        | (refine wpAny_bind (wpAny_load ho ?_)
           rw [hc,hd]
           show wpAny M A (if (["enumerate", "zip", "dict_itemiterator", "dict_reverseitemiterator", "odict_iterator", "itertools.zip_longest", "itertools.pairwise"].contains n && vs[0]? == some (rawInt _)) = true then _ else _) Q E s
           rw [if_neg (by intro h; rw [hn,Bool.false_and] at h; cases h)]
           exact wpAny_pure hQ))
def Itl (K : PySem.W.Frag) (a : Addr) : It:=
  ⟨fun i H=>∃ xs x,SqL K H a xs /\ xs[i]? = some x,fun i H x H'=>H' = H /\ ∀ xs,SqL K H a xs -> xs[i]? = some x,fun i H=>∃ xs,SqL K H a xs /\ xs.length <= i⟩
def Itt (K : PySem.W.Frag) (a : Addr) : It:=
  ⟨fun i H=>∃ xs x,SqT K H a xs /\ xs[i]? = some x,fun i H x H'=>H' = H /\ ∀ xs,SqT K H a xs -> xs[i]? = some x,fun i H=>∃ xs,SqT K H a xs /\ xs.length <= i⟩
def Itr (lo : Int) (n : Nat) : It:=⟨fun i _=>i < n,fun i H x H'=>H' = H /\ x = .int (lo + i),fun i _=>n <= i⟩
theorem turn_list {P : Program} {w : World} {K : PySem.W.Frag} {tg : Expr} (a it : Addr) : Turn P w K tg (Itl K a) [it] it (fun i h=>h.IsListIter it a i) where
  mem:=by simp
  obj:=fun i h st b hb=>by
    have e : b = it:=by simpa using hb
    subst e
    obtain ⟨o,e,c,d⟩:=st
    exact ⟨o,e,fun v z=>by rw [d] at z; cases z⟩
  keep:=fun i h h' st k=>st.at fun o e=>k it (by simp) o e
  item:=by
    intro X hP hw hK hc i pins s σ H E I hf st hg
    subst hP hw hK
    obtain ⟨xs,x,hq,hx⟩:=hg
    obtain ⟨its,rv,p,hz⟩:=I.list hq
    obtain ⟨u,hu,ru⟩:=rv.get hx
    obtain ⟨f0,f1,f2,f3,f4,f5⟩:=hf it (by simp)
    refine wpAny_pyNext_list_item st p.isList (x:=u) (by simpa using hu) fun h' st' sb=>?_
    have I1 : Inv X pins σ H { s with heap:=h' }:=I.turned (t':=s.toks) (fun b o hb e=>(sb.2 b hb).trans e) f0 f1 f3 f4 f5
    obtain ⟨o,e,c,d⟩:=id st'
    exact ⟨u,rfl,go_of (s:={ s with heap:=h' }) e c d (by decide) ⟨x,H,I1,ru,⟨rfl,fun ys hy=>by rw [I.list_inj hy hq]; exact hx⟩,st',fun b hb=>(hf b hb).1⟩⟩
  done:=by
    intro X hP hw hK hc i pins s σ H E I hf st hg
    subst hP hw hK
    obtain ⟨xs,hq,hx⟩:=hg
    obtain ⟨its,rv,p,hz⟩:=I.list hq
    obtain ⟨f0,f1,f2,f3,f4,f5⟩:=hf it (by simp)
    have hl:=rv.length
    exact wpAny_pyNext_list_end (I.ok.hd hc) st p.isList (by simp; omega) fun h' eb=>⟨rfl,I.turned (t':=s.toks) (fun b o hb e=>eb b o hb e) f0 f1 f3 f4 f5⟩
  self:=fun _ _ _ _ _ st h=>wpAny_pyIter_listiter st h
theorem turn_tuple {P : Program} {w : World} {K : PySem.W.Frag} {tg : Expr} (a it : Addr) : Turn P w K tg (Itt K a) [it] it (fun i h=>h.IsTupleIter it a i) where
  mem:=by simp
  obj:=fun i h st b hb=>by
    have e : b = it:=by simpa using hb
    subst e
    obtain ⟨o,e,c,d⟩:=st
    exact ⟨o,e,fun v z=>by rw [d] at z; cases z⟩
  keep:=fun i h h' st k=>st.at fun o e=>k it (by simp) o e
  item:=by
    intro X hP hw hK hc i pins s σ H E I hf st hg
    subst hP hw hK
    obtain ⟨xs,x,hq,hx⟩:=hg
    obtain ⟨its,rv,p,hz⟩:=I.tuple hq
    obtain ⟨u,hu,ru⟩:=rv.get hx
    obtain ⟨f0,f1,f2,f3,f4,f5⟩:=hf it (by simp)
    refine wpAny_pyNext_tuple_item st (show s.heap.IsTuple a its.toArray from p) (x:=u) (by simpa using hu) fun h' st' sb=>?_
    have I1 : Inv X pins σ H { s with heap:=h' }:=I.turned (t':=s.toks) (fun b o hb e=>(sb.2 b hb).trans e) f0 f1 f3 f4 f5
    obtain ⟨o,e,c,d⟩:=id st'
    exact ⟨u,rfl,go_of (s:={ s with heap:=h' }) e c d (by decide) ⟨x,H,I1,ru,⟨rfl,fun ys hy=>by rw [I.tuple_inj hy hq]; exact hx⟩,st',fun b hb=>(hf b hb).1⟩⟩
  done:=by
    intro X hP hw hK hc i pins s σ H E I hf st hg
    subst hP hw hK
    obtain ⟨xs,hq,hx⟩:=hg
    obtain ⟨its,rv,p,hz⟩:=I.tuple hq
    obtain ⟨f0,f1,f2,f3,f4,f5⟩:=hf it (by simp)
    have hl:=rv.length
    exact wpAny_pyNext_tuple_end (I.ok.hd hc) st (show s.heap.IsTuple a its.toArray from p) (by simp; omega) fun h' eb=>⟨rfl,I.turned (t':=s.toks) (fun b o hb e=>eb b o hb e) f0 f1 f3 f4 f5⟩
  self:=fun _ _ _ _ _ st h=>wpAny_pyIter_tupleiter st h
theorem turn_range {P : Program} {w : World} {K : PySem.W.Frag} {tg : Expr} (it : Addr) (lo : Int) (n : Nat) : Turn P w K tg (Itr lo n) [it] it (fun i h=>IsRangeIter h it (lo + (i : Nat) * 1) ((n : Int) - (i : Nat)) 1) where
  mem:=by simp
  obj:=fun i h st b hb=>by
    have e : b = it:=by simpa using hb
    subst e
    exact ⟨_,st,fun v z=>by
      have z' : Data.fields _ = Data.cell v:=z
      cases z'⟩
  keep:=fun i h h' st k=>k it (by simp) _ st
  item:=by
    intro X hP hw hK hc i pins s σ H E I hf st hg
    subst hP hw hK
    obtain ⟨f0,f1,f2,f3,f4,f5⟩:=hf it (by simp)
    have W:=Walks.range (prog:=X.prog) (w:=X.w) (I.ok.hd hc) it lo 1 n
    refine W.item i s _ _ hg st fun v h' tk hv st' kk=>?_
    obtain ⟨t,rfl⟩:=hv
    have I1 : Inv X pins σ H { s with heap:=h',toks:=tk }:=I.turned (fun b o hb e=>kk b o (by simpa using hb) e) f0 f1 f3 f4 f5
    refine ⟨_,rfl,go_of (s:={ s with heap:=h',toks:=tk }) (n := "range_iterator") st' rfl rfl (by decide) ⟨.int (lo + i),H,I1,⟨t,?_⟩,⟨rfl,rfl⟩,st',fun b hb=>(hf b hb).1⟩⟩
    rw [Int.mul_one]
  done:=by
    intro X hP hw hK hc i pins s σ H E I hf st hg
    subst hP hw hK
    obtain ⟨f0,f1,f2,f3,f4,f5⟩:=hf it (by simp)
    exact wpAny_pyNext_range_end (I.ok.hd hc) st (by have : n <= i:=hg; omega) fun h' eb=>⟨rfl,I.turned (t':=s.toks) (fun b o hb e=>eb b o hb e) f0 f1 f3 f4 f5⟩
  self:=fun _ _ _ _ _ st h=>wpAny_pyIter_rangeiter st h
end L2
namespace L2
open PySem PySem.Spec PyProof.Rows
section
variable {X : Cx} {tg : Expr}
def iList (K : PySem.W.Frag) (tl : TE) : TI:=fun σ H R=>tl σ H fun x H1=>∃ a,x = .ref a /\ (∃ xs,SqL K H1 a xs) /\ R (Itl K a) H1
def iTup (K : PySem.W.Frag) (tl : TE) : TI:=fun σ H R=>tl σ H fun x H1=>∃ a,x = .ref a /\ (∃ xs,SqT K H1 a xs) /\ R (Itt K a) H1
theorem pi_list {l : Expr} {tl : TE} (hl : PE X l tl) : PI X tg l (iList X.K tl):=by
  intro pins s σ H R I h
  refine thn (hl pins s σ H _ I h) fun v s1 ⟨x,H1,I1,r1,q1⟩=>?_
  obtain ⟨a,e,⟨xs,hq⟩,q⟩:=q1
  subst e
  cases r1
  obtain ⟨its,rv,p,hz⟩:=I1.list hq
  refine wpAny_pyIter_list p.isList ?_
  refine ⟨s1.heap.objs.size,[s1.heap.objs.size],_,_,H1,rfl,I1.kept (t':=s1.toks) fun b o e=>Heap.get?_push_of_some _ e,turn_list a _,⟨_,Heap.get?_push_size _ rfl,rfl,rfl⟩,fun b hb=>?_,q⟩
  have e : b = s1.heap.objs.size:=by simpa using hb
  subst e
  exact I1.fpOk (Nat.le_refl _) (I1.hok.fresh (Nat.le_refl _))
theorem pi_tup {l : Expr} {tl : TE} (hl : PE X l tl) : PI X tg l (iTup X.K tl):=by
  intro pins s σ H R I h
  refine thn (hl pins s σ H _ I h) fun v s1 ⟨x,H1,I1,r1,q1⟩=>?_
  obtain ⟨a,e,⟨xs,hq⟩,q⟩:=q1
  subst e
  cases r1
  obtain ⟨its,rv,p,hz⟩:=I1.tuple hq
  refine wpAny_pyIter_tuple (show s1.heap.IsTuple a its.toArray from p) ?_
  refine ⟨s1.heap.objs.size,[s1.heap.objs.size],_,_,H1,rfl,I1.kept (t':=s1.toks) fun b o e=>Heap.get?_push_of_some _ e,turn_tuple a _,⟨_,Heap.get?_push_size _ rfl,rfl,rfl⟩,fun b hb=>?_,q⟩
  have e : b = s1.heap.objs.size:=by simpa using hb
  subst e
  exact I1.fpOk (Nat.le_refl _) (I1.hok.fresh (Nat.le_refl _))
theorem range_it {pins : List (Addr × Obj)} {σ : St} {H : Hp} {s : Shared} {R : It -> Hp -> Prop} {E : Value -> Shared -> Prop} {lo hi : Int} {t u v : Tok} {tk : Nat} (I : Inv X pins σ H s) (h1 : -(2 ^ 62) <= lo) (h2 : lo < 2 ^ 62) (h3 : -(2 ^ 62) <= hi) (h4 : hi < 2 ^ 62)
    (q : R (Itr lo (hi - lo).toNat) H) : wpAny (model X.prog X.w) X.A (pyIter (.ref s.heap.objs.size)) (PIE X pins σ tg R) E { s with heap:=s.heap.push { cls:=.type "range",data:=.fields #[.int lo t,.int hi u,.int 1 v] },toks:=tk }:=by
  refine wpAny_pyIter_range (IsRange.new ..) (small_one h1 h2 h3 h4) ?_
  have I1 : Inv X pins σ H { s with heap:=s.heap.push { cls:=.type "range",data:=.fields #[.int lo t,.int hi u,.int 1 v] },toks:=tk }:=I.kept fun b o e=>Heap.get?_push_of_some _ e
  refine ⟨(s.heap.push { cls:=.type "range",data:=.fields #[.int lo t,.int hi u,.int 1 v] }).objs.size,[(s.heap.push { cls:=.type "range",data:=.fields #[.int lo t,.int hi u,.int 1 v] }).objs.size],_,_,H,rfl,
    I1.kept (t':=tk) fun b o e=>Heap.get?_push_of_some _ e,turn_range _ lo (hi - lo).toNat,?_,fun b hb=>?_,q⟩
  · have e1 : lo + ((0 : Nat) : Int) * 1 = lo:=by simp
    have e2 : (((hi - lo).toNat : Nat) : Int) - ((0 : Nat) : Int) = Builtin.Range.rangeSize lo hi 1:=by rw [rangeSize_one]; split <;> omega
    show IsRangeIter _ _ (lo + ((0 : Nat) : Int) * 1) ((((hi - lo).toNat : Nat) : Int) - ((0 : Nat) : Int)) 1
    rw [e1,e2]
    exact Heap.get?_push_size _ rfl
  · have e : b = (s.heap.push { cls:=.type "range",data:=.fields #[.int lo t,.int hi u,.int 1 v] }).objs.size:=by simpa using hb
    subst e
    exact I1.fpOk (Nat.le_refl _) (I1.hok.fresh (Nat.le_refl _))
def iRng1 (ta : TA) : TI:=fun σ H R=>ta σ H fun vs H1=>∃ j : Int,vs = [.int j] /\ -(2 ^ 62) <= j /\ j < 2 ^ 62 /\ R (Itr 0 j.toNat) H1
def iRng2 (ta : TA) : TI:=fun σ H R=>ta σ H fun vs H1=>∃ i j : Int,vs = [.int i,.int j] /\ (-(2 ^ 62) <= i /\ i < 2 ^ 62 /\ -(2 ^ 62) <= j /\ j < 2 ^ 62) /\ R (Itr i (j - i).toNat) H1
theorem pi_range1 {a : Expr} {ta : TA} {p pos : Pos} (hg : Gl X "range") (hm : X.mg "range" = none) (ha : PA X [a] ta) (hs : starEach [a] X.env = [(false,eval a X.env)]:=by rfl) : PI X tg (.Call (.Name "range" p) [a] [] pos) (iRng1 ta):=by
  intro pins s σ H R I h
  refine Call_ (ld_blt I hg hm boot_range (PyProof.Rows.callWith_type1 (thn (ha pos pins s σ H _ I h) fun us s1 ⟨vs,H1,I1,r1,q1⟩=>?_) hs rfl))
  obtain ⟨j,e,q1,q2,q⟩:=q1
  subst e
  cases r1 with
  | cons r rr=>
    cases rr
    obtain ⟨t,rfl⟩:=r
    exact call_range_1 (range_it I1 (by omega) (by omega) q1 q2 (by simpa using q))
theorem pi_range2 {a b : Expr} {ta : TA} {p pos : Pos} (hg : Gl X "range") (hm : X.mg "range" = none) (ha : PA X [a,b] ta) (hs : starEach [a,b] X.env = [(false,eval a X.env),(false,eval b X.env)]:=by rfl) (hs2 : starEach [b] X.env = [(false,eval b X.env)]:=by rfl) :
    PI X tg (.Call (.Name "range" p) [a,b] [] pos) (iRng2 ta):=by
  intro pins s σ H R I h
  refine Call_ (ld_blt I hg hm boot_range (PyProof.Rows.callWith_type1 (thn (ha pos pins s σ H _ I h) fun us s1 ⟨vs,H1,I1,r1,q1⟩=>?_) (by rw [hs,hs2]) (by rw [hs2]; rfl)))
  obtain ⟨i,j,e,⟨q1,q2,q3,q4⟩,q⟩:=q1
  subst e
  cases r1 with
  | cons r rr=>
    cases rr with
    | cons r' rr=>
      cases rr
      obtain ⟨t,rfl⟩:=r
      obtain ⟨t',rfl⟩:=r'
      exact call_range_2 (range_it I1 q1 q2 q3 q4 q)
def tFor (wi : TI) (g : TG) (tb : TS) : TS:=fun D σ H=>wi σ H fun J H1=>∃ W : Nat -> Nat -> St -> Hp -> Prop,(∃ m,W 0 m σ H1) /\ ∀ i m σ H,W i m σ H ->
  (J.stop i H /\ D.nx σ H) \/ (J.go i H /\ ∃ N : St -> Hp -> Prop,(∀ σ' H',N σ' H' -> ∃ m',m' < m /\ W (i + 1) m' σ' H') /\ ∀ x H',J.yld i H x H' -> g x σ H' fun σ2 H2=>tb { D with nx:=N,ct:=N,bk:=D.nx } σ2 H2)
def pinsAt (fp : List Addr) (h : Heap) : List (Addr × Obj):=fp.filterMap fun b=>(h.get? b).map fun o=>(b,o)
theorem mem_pinsAt {fp : List Addr} {h : Heap} {b : Addr} {o : Obj} (hb : b ∈ fp) (e : h.get? b = some o) : (b,o) ∈ pinsAt fp h:=List.mem_filterMap.mpr ⟨b,hb,by rw [e]; rfl⟩
theorem of_pinsAt {fp : List Addr} {h : Heap} {p : Addr × Obj} (hp : p ∈ pinsAt fp h) : p.1 ∈ fp /\ h.get? p.1 = some p.2:=by
  obtain ⟨b,hb,e⟩:=List.mem_filterMap.mp hp
  cases q : h.get? b with
  | none=>rw [q] at e; cases e
  | some o=>
    rw [q] at e
    have e' : (b,o) = p:=Option.some.inj e
    subst e'
    exact ⟨hb,q⟩
theorem Inv.pinned {pins : List (Addr × Obj)} {σ : St} {H : Hp} {s : Shared} {fp : List Addr} (I : Inv X pins σ H s) (hf : ∀ b ∈ fp,FpOk X pins H b) (ho : ∀ b ∈ fp,∃ o,s.heap.get? b = some o /\ ∀ v,o.data ≠ .cell v) : Inv X (pins ++ pinsAt fp s.heap) σ H s:=
  I.pins_of fun p hp=>(List.mem_append.mp hp).elim (fun z=>I.pin p (List.mem_append_right _ z)) fun z=>by
    obtain ⟨hb,e⟩:=of_pinsAt z
    obtain ⟨f0,f1,f2,_⟩:=hf p.1 hb
    obtain ⟨o,e',d⟩:=ho p.1 hb
    rw [e] at e'; cases e'
    exact ⟨e,f0,f1,f2,d⟩
theorem Inv.unpinned {pins pl : List (Addr × Obj)} {σ : St} {H : Hp} {s : Shared} (I : Inv X (pins ++ pl) σ H s) : Inv X pins σ H s:=I.pins_of fun p hp=>I.pin p (List.mem_append_right _ (List.mem_append_left _ hp))
theorem ps_for {iter : Expr} {body : List Stmt} {wi : TI} {g : TG} {tb : TS} {pos : Pos} (hp : PassesOwn (model X.prog X.w) X.A X.env X.xe) (hc : X.calm = true) (hi : PI X tg iter wi) (hg : PG X tg g) (hb : PSs X body tb)
    (hs : ∀ x,foldedSetIterable iter X.env x = pure x:=by intro _; rfl) : PS X (.For tg iter body [] pos) (tFor wi g tb):=by
  intro pins s σ H D I h
  refine wpAny_For (thn (hi pins s σ H _ I h) fun v s1 h1=>thn h1 fun itv s2 h2=>?_) hs
  obtain ⟨it,fp,tn,J,H2,e,I2,T,st2,f2,W,⟨m0,w0⟩,turn⟩:=h2
  subst e
  have stat : ∀ {H' : Hp},(∀ b ∈ fp,H' b = none) -> ∀ b ∈ fp,FpOk X pins H' b:=fun hn b hb=>⟨hn b hb,(f2 b hb).2⟩
  refine codeAny_forLoop_any (fun n s'=>∃ i σ' H',Inv X pins σ' H' s' /\ tn i s'.heap /\ (∀ b ∈ fp,H' b = none) /\ W i n σ' H') ?_ m0 ⟨0,σ,H2,I2,st2,fun b hb=>(f2 b hb).1,w0⟩
  rintro n s3 ⟨i,σ3,H3,I3,st3,fr3,w3⟩
  rcases turn i n σ3 H3 w3 with ⟨stop,qn⟩ | ⟨go,N,hN,step⟩
  · refine wpAny_passesOwn hp (thn (T.done X rfl rfl rfl hc i pins s3 σ3 H3 X.xe I3 (stat fr3) st3 stop) fun r s4 ⟨hr,I4⟩=>?_)
    subst hr
    exact wpAny_execs_nil ⟨σ3,H3,I4,qn⟩
  · refine wpAny_passesOwn hp (thn (T.item X rfl rfl rfl hc i pins s3 σ3 H3 X.xe I3 (stat fr3) st3 go) fun r s4 ⟨u,hr,h4⟩=>?_)
    subst hr
    refine wpAny_passesOwn hp (thn h4 fun _ s5 ⟨x,H5,I5,r5,y5,st5,fr5⟩=>?_)
    have I5':=I5.pinned (stat fr5) (T.obj _ _ st5)
    refine wpAny_passesOwn hp (thn (hg _ s5 σ3 H5 x u _ I5' r5 (step x H5 y5)) fun _ s6 ⟨σ6,H6,I6,q6⟩=>?_)
    refine wpAny_passesOwn hp (thn (hb _ s6 σ6 H6 _ I6 q6) fun f s7 q7=>?_)
    have again : ∀ {σ7 : St} {H7 : Hp},Inv X (pins ++ pinsAt fp s5.heap) σ7 H7 s7 -> N σ7 H7 -> ∃ m,m < n /\ ∃ i σ' H',Inv X pins σ' H' s7 /\ tn i s7.heap /\ (∀ b ∈ fp,H' b = none) /\ W i m σ' H':=fun {σ7 H7} I7 n7=>by
      obtain ⟨m',hm,w7⟩:=hN σ7 H7 n7
      refine ⟨m',hm,i + 1,σ7,H7,I7.unpinned,T.keep _ _ _ st5 fun b hb o e=>(I7.pin (b,o) (List.mem_append_right _ (List.mem_append_right _ (mem_pinsAt hb e)))).1,fun b hb=>?_,w7⟩
      obtain ⟨o,e,d⟩:=T.obj _ _ st5 b hb
      exact (I7.pin (b,o) (List.mem_append_right _ (List.mem_append_right _ (mem_pinsAt hb e)))).2.1
    cases f with
    | next=>obtain ⟨σ7,H7,I7,n7⟩:=q7; exact again I7 n7
    | cont=>obtain ⟨σ7,H7,I7,n7⟩:=q7; exact again I7 n7
    | brk=>obtain ⟨σ7,H7,I7,q7⟩:=q7; exact ⟨σ7,H7,I7.unpinned,q7⟩
    | ret v=>obtain ⟨x7,σ7,H7,I7,r7,q7⟩:=q7; exact ⟨x7,σ7,H7,I7.unpinned,r7,q7⟩
end
end L2
namespace L2
open PySem PySem.Spec PyProof.Rows
abbrev R2:=V -> V -> Hp -> VK -> Prop
def OpR (X : Cx) (f : Value -> Value -> Sem Value) (r : R2) : Prop:=
  ∀ (pins : List (Addr × Obj)) (s : Shared) (σ : St) (H : Hp) (x y : V) (v u : Value) (Q : VK),Inv X pins σ H s -> RelV x v -> RelV y u -> r x y H Q ->
    wpAny (model X.prog X.w) X.A (f v u) (EP X pins σ Q) X.xe s
def UnR (X : Cx) (f : Value -> Sem Value) (r : V -> Hp -> VK -> Prop) : Prop:=
  ∀ (pins : List (Addr × Obj)) (s : Shared) (σ : St) (H : Hp) (x : V) (v : Value) (Q : VK),Inv X pins σ H s -> RelV x v -> r x H Q ->
    wpAny (model X.prog X.w) X.A (f v) (EP X pins σ Q) X.xe s
def CallR (X : Cx) (f : Value) (r : List V -> Hp -> VK -> Prop) : Prop:=
  ∀ (pins : List (Addr × Obj)) (s : Shared) (σ : St) (H : Hp) (xs : List V) (us : List Value) (Q : VK),Inv X pins σ H s -> Vals xs us -> r xs H Q ->
    wpAny (model X.prog X.w) X.A (call f us) (EP X pins σ Q) X.xe s
def tOp (r : R2) (ta tb : TE) : TE:=fun σ H Q=>ta σ H fun x H1=>tb σ H1 fun y H2=>r x y H2 Q
def tUn (r : V -> Hp -> VK -> Prop) (ta : TE) : TE:=fun σ H Q=>ta σ H fun x H1=>r x H1 Q
def rI (C : Int -> Int -> Prop) (g : Int -> Int -> V) : R2:=fun x y H Q=>∃ i j,x = .int i /\ y = .int j /\ C i j /\ Q (g i j) H
def rI0 (g : Int -> Int -> V) : R2:=fun x y H Q=>∃ i j,x = .int i /\ y = .int j /\ Q (g i j) H
def rU (g : Int -> V) : V -> Hp -> VK -> Prop:=fun x H Q=>∃ i,x = .int i /\ Q (g i) H
section
variable {X : Cx} {a b c : Expr} {ta tb tc : TE} {pos : Pos}
theorem binT (ha : PE X a ta) (hb : PE X b tb) {pins : List (Addr × Obj)} {s : Shared} {σ : St} {H : Hp} {R : V -> V -> Hp -> Prop} (I : Inv X pins σ H s)
    (h : ta σ H fun x H1=>tb σ H1 fun y H2=>R x y H2) {Q : Value -> Shared -> Prop} {f : Value -> Value -> Sem Value}
    (hf : ∀ v u s2 x y H2,Inv X pins σ H2 s2 -> RelV x v -> RelV y u -> R x y H2 -> wpAny (model X.prog X.w) X.A (f v u) Q X.xe s2) :
    wpAny (model X.prog X.w) X.A (eval a X.env) (fun v s₁=>wpAny (model X.prog X.w) X.A (eval b X.env) (fun u s₂=>wpAny (model X.prog X.w) X.A (f v u) Q X.xe s₂) X.xe s₁) X.xe s:=by
  refine thn (ha pins s σ H _ I h) fun v s1 ⟨x,H1,I1,r1,q1⟩=>?_
  refine thn (hb pins s1 σ H1 _ I1 q1) fun u s2 ⟨y,H2,I2,r2,q2⟩=>?_
  exact hf v u s2 x y H2 I2 r1 r2 q2
theorem pe_op {op : Operator} {r : R2} (ho : OpR X (binaryOp op) r) (ha : PE X a ta) (hb : PE X b tb) : PE X (.BinOp a op b pos) (tOp r ta tb):=by
  intro pins s σ H Q I h
  exact wpAny_BinOp (binT ha hb I h fun v u s2 x y H2 I2 rx ry q=>ho pins s2 σ H2 x y v u Q I2 rx ry q)
theorem pe_un {op : UnaryOp} {r : V -> Hp -> VK -> Prop} (ho : UnR X (unaryOp op) r) (ha : PE X a ta) : PE X (.UnaryOp op a pos) (tUn r ta):=by
  intro pins s σ H Q I h
  exact UnaryOp_ (thn (ha pins s σ H _ I h) fun v s1 ⟨x,H1,I1,r1,q1⟩=>ho pins s1 σ H1 x v Q I1 r1 q1)
theorem opI {f : Value -> Value -> Sem Value} {C : Int -> Int -> Prop} {g : Int -> Int -> Int}
    (rule : ∀ (i j : Int) (t u : Tok) (s : Shared) (Q : Value -> Shared -> Prop) (E : Value -> Shared -> Prop),C i j -> Q (.int (g i j) s.toks) { s with toks:=s.toks + 1 } -> wpAny (model X.prog X.w) X.A (f (.int i t) (.int j u)) Q E s) :
    OpR X f (rI C fun i j=>.int (g i j)):=by
  intro pins s σ H x y v u Q I rx ry h
  obtain ⟨i,j,rfl,rfl,hc,q⟩:=h
  obtain ⟨t,rfl⟩:=rx
  obtain ⟨t',rfl⟩:=ry
  exact rule i j t t' s _ _ hc ⟨.int (g i j),H,I.tok _,⟨_,rfl⟩,q⟩
theorem opI0 {f : Value -> Value -> Sem Value} {g : Int -> Int -> Int}
    (rule : ∀ (i j : Int) (t u : Tok) (s : Shared) (Q : Value -> Shared -> Prop) (E : Value -> Shared -> Prop),Q (.int (g i j) s.toks) { s with toks:=s.toks + 1 } -> wpAny (model X.prog X.w) X.A (f (.int i t) (.int j u)) Q E s) :
    OpR X f (rI0 fun i j=>.int (g i j)):=by
  intro pins s σ H x y v u Q I rx ry h
  obtain ⟨i,j,rfl,rfl,q⟩:=h
  obtain ⟨t,rfl⟩:=rx
  obtain ⟨t',rfl⟩:=ry
  exact rule i j t t' s _ _ ⟨.int (g i j),H,I.tok _,⟨_,rfl⟩,q⟩
theorem opB0 {f : Value -> Value -> Sem Value} {g : Int -> Int -> Bool}
    (rule : ∀ (i j : Int) (t u : Tok) (s : Shared) (Q : Value -> Shared -> Prop) (E : Value -> Shared -> Prop),Q (.bool (g i j)) s -> wpAny (model X.prog X.w) X.A (f (.int i t) (.int j u)) Q E s) :
    OpR X f (rI0 fun i j=>.bl (g i j)):=by
  intro pins s σ H x y v u Q I rx ry h
  obtain ⟨i,j,rfl,rfl,q⟩:=h
  obtain ⟨t,rfl⟩:=rx
  obtain ⟨t',rfl⟩:=ry
  exact rule i j t t' s _ _ ⟨.bl (g i j),H,I,rfl,q⟩
def CDiv (i j : Int) : Prop:=0 < j /\ j < 1073741824
def CPow (i j : Int) : Prop:=0 <= j /\ j <= 1000000 /\ i.natAbs < 2 ^ 64
def CMul (i j : Int) : Prop:=(-(2 ^ 64) < i /\ i < 2 ^ 64) \/ (-(2 ^ 64) < j /\ j < 2 ^ 64)
theorem CMul.ok {i j : Int} (h : CMul i j) : IntMulOk i j:=by
  rcases h with ⟨h1,h2⟩ | ⟨h1,h2⟩
  · exact .of_left (intBits_le_64 h1 h2)
  · exact .of_right (intBits_le_64 h1 h2)
theorem op_add : OpR X (binaryOp .Add) (rI0 fun i j=>.int (i + j)):=opI0 fun _ _ _ _ _ _ _ q=>add_int q
theorem op_sub : OpR X (binaryOp .Sub) (rI0 fun i j=>.int (i - j)):=opI0 fun _ _ _ _ _ _ _ q=>sub_int q
theorem op_mul : OpR X (binaryOp .Mult) (rI CMul fun i j=>.int (i * j)):=opI fun _ _ _ _ _ _ _ hc q=>mul_int q hc.ok
theorem op_fdiv : OpR X (binaryOp .FloorDiv) (rI CDiv fun i j=>.int (i / j)):=opI fun i j _ _ _ _ _ hc q=>by
  have h1 : (0 : Int) < j:=hc.1
  have h2 : j < 1073741824:=hc.2
  exact floordiv_int (by omega) (by rw [Int.fdiv_eq_ediv_of_nonneg i (by omega)]; exact q) (.inl (PyProof.noPylong_small (by omega)))
theorem op_mod : OpR X (binaryOp .Mod) (rI (fun _ j=>0 < j) fun i j=>.int (i % j)):=opI fun i j _ _ _ _ _ hc q=>by
  have h1 : (0 : Int) < j:=hc
  exact mod_int' (by omega) (by rw [Int.fmod_eq_emod_of_nonneg i (by omega)]; exact q)
theorem op_pow : OpR X (binaryOp .Pow) (rI CPow fun i j=>.int (i ^ j.toNat)):=opI fun _ _ _ _ _ _ _ hc q=>pow_int_small hc.1 hc.2.1 hc.2.2 q
theorem unI {f : Value -> Sem Value} {g : Int -> Int}
    (rule : ∀ (i : Int) (t : Tok) (s : Shared) (Q : Value -> Shared -> Prop) (E : Value -> Shared -> Prop),Q (.int (g i) s.toks) { s with toks:=s.toks + 1 } -> wpAny (model X.prog X.w) X.A (f (.int i t)) Q E s) :
    UnR X f (rU fun i=>.int (g i)):=by
  intro pins s σ H x v Q I rx h
  obtain ⟨i,rfl,q⟩:=h
  obtain ⟨t,rfl⟩:=rx
  exact rule i t s _ _ ⟨.int (g i),H,I.tok _,⟨_,rfl⟩,q⟩
theorem un_neg : UnR X (unaryOp .USub) (rU fun i=>.int (-i)):=unI fun _ _ _ _ _ q=>neg_int q
end
def scal : V -> V -> Bool
  | .non,.non=>true | .non,.int _=>true | .int _,.non=>true | .non,.bl _=>true | .bl _,.non=>true | .non,.str _=>true | .str _,.non=>true
  | .int _,.int _=>true | .bl _,.bl _=>true | .str _,.str _=>true | .byt _,.byt _=>true
  | .int _,.str _=>true | .str _,.int _=>true | .bl _,.str _=>true | .str _,.bl _=>true
  | _,_=>false
def rNe : R2:=fun x y H Q=>scal x y = true /\ Q (.bl (!decide (x = y))) H
theorem dec_int {i j : Int} : decide (V.int i = V.int j) = (i == j):=by
  rw [Bool.eq_iff_iff]
  simp
theorem dec_bl {i j : Bool} : decide (V.bl i = V.bl j) = (i == j):=by
  rw [Bool.eq_iff_iff]
  simp
theorem dec_str {i j : Str} : decide (V.str i = V.str j) = (i == j):=by
  rw [Bool.eq_iff_iff]
  simp
theorem dec_byt {i j : Array UInt8} : decide (V.byt i = V.byt j) = (i.toList == j.toList):=by
  rw [Bool.eq_iff_iff]
  cases i
  cases j
  simp
section
variable {X : Cx} {a b c : Expr} {ta tb tc : TE} {pos : Pos}
theorem fin_bl {pins : List (Addr × Obj)} {σ : St} {H : Hp} {s : Shared} {Q : VK} {k k' : Bool} (I : Inv X pins σ H s) (q : Q (.bl k) H) (e : k = k') : EP X pins σ Q (.bool k') s:=by
  subst e
  exact ⟨.bl k,H,I,rfl,q⟩
theorem op_ne : OpR X (compareOp .NotEq) rNe:=by
  intro pins s σ H x y v u Q I rx ry h
  obtain ⟨hs,q⟩:=h
  cases x with
  | non=>
    cases rx
    cases y with
    | non=>cases ry; exact PySem.EqNone.ne_none_none (fin_bl I q (by simp))
    | bl j=>cases ry; exact PySem.EqNone.ne_none_bool (fin_bl I q (by simp))
    | int j=>obtain ⟨t',rfl⟩:=ry; exact PySem.EqNone.ne_none_int (fin_bl I q (by simp))
    | str j=>obtain ⟨t',rfl⟩:=ry; exact PySem.EqNone.ne_none_str (fin_bl I q (by simp))
    | _=>exact absurd (show false = true from hs) Bool.false_ne_true
  | bl i=>
    cases rx
    cases y with
    | non=>cases ry; exact PySem.EqNone.ne_bool_none (fin_bl I q (by simp))
    | bl j=>cases ry; exact ne_bool (fin_bl I q (congrArg not dec_bl))
    | str j=>obtain ⟨t',rfl⟩:=ry; exact PySem.EqMixed.ne_bool_str (fin_bl I q (by simp))
    | _=>exact absurd (show false = true from hs) Bool.false_ne_true
  | int i=>
    obtain ⟨t,rfl⟩:=rx
    cases y with
    | non=>cases ry; exact PySem.EqNone.ne_int_none (fin_bl I q (by simp))
    | int j=>obtain ⟨t',rfl⟩:=ry; exact ne_int (fin_bl I q (congrArg not dec_int))
    | str j=>obtain ⟨t',rfl⟩:=ry; exact PySem.EqMixed.ne_int_str (fin_bl I q (by simp))
    | _=>exact absurd (show false = true from hs) Bool.false_ne_true
  | str i=>
    obtain ⟨t,rfl⟩:=rx
    cases y with
    | non=>cases ry; exact PySem.EqNone.ne_str_none (fin_bl I q (by simp))
    | bl j=>cases ry; exact PySem.EqMixed.ne_str_bool (fin_bl I q (by simp))
    | int j=>obtain ⟨t',rfl⟩:=ry; exact PySem.EqMixed.ne_str_int (fin_bl I q (by simp))
    | str j=>obtain ⟨t',rfl⟩:=ry; exact ne_str (fin_bl I q (congrArg not dec_str))
    | _=>exact absurd (show false = true from hs) Bool.false_ne_true
  | byt i=>
    obtain ⟨t,rfl⟩:=rx
    cases y with
    | byt j=>obtain ⟨t',rfl⟩:=ry; exact PySem.W.ne_bytes (fin_bl I q (congrArg not dec_byt))
    | _=>exact absurd (show false = true from hs) Bool.false_ne_true
  | _=>cases y <;> exact absurd (show false = true from hs) Bool.false_ne_true
theorem op_lt : OpR X (compareOp .Lt) (rI0 fun i j=>.bl (decide (i < j))):=opB0 fun _ _ _ _ _ _ _ q=>lt_int q
theorem op_le : OpR X (compareOp .LtE) (rI0 fun i j=>.bl (decide (i <= j))):=opB0 fun _ _ _ _ _ _ _ q=>le_int q
theorem op_gt : OpR X (compareOp .Gt) (rI0 fun i j=>.bl (decide (j < i))):=opB0 fun _ _ _ _ _ _ _ q=>gt_int q
theorem op_isN : OpR X (compareOp .Is) (fun x y H Q=>y = .non /\ Q (.bl (decide (x = .non))) H):=by
  intro pins s σ H x y v u Q I rx ry h
  obtain ⟨rfl,q⟩:=h
  cases ry
  refine is_none_gen (fin_bl I q ?_)
  cases x <;> first
    | (cases rx; rfl)
    | (obtain ⟨t,rfl⟩:=rx; rfl)
theorem OpR.or {f : Value -> Value -> Sem Value} {r r' : R2} (h : OpR X f r) (h' : OpR X f r') : OpR X f (fun x y H Q=>r x y H Q \/ r' x y H Q):=by
  intro pins s σ H x y v u Q I rx ry q
  rcases q with q | q
  · exact h pins s σ H x y v u Q I rx ry q
  · exact h' pins s σ H x y v u Q I rx ry q
theorem nomark (b : Expr) {op : CmpOp} (h : op ≠ .In:=by decide) (h2 : op ≠ .NotIn:=by decide) : behindInMarks op b = false:=by
  have e1 : (op == CmpOp.In) = false:=by cases op <;> first | rfl | exact absurd rfl h
  have e2 : (op == CmpOp.NotIn) = false:=by cases op <;> first | rfl | exact absurd rfl h2
  cases b <;> simp [behindInMarks,e1,e2]
theorem pe_cmpR {op : CmpOp} {r : R2} (ho : OpR X (compareOp op) r) (ha : PE X a ta) (hb : PE X b tb) (hm : behindInMarks op b = false) : PE X (.Compare a [op] [b] pos) (tOp r ta tb):=by
  intro pins s σ H Q I h
  exact wpAny_Compare1 (binT ha hb I h fun v u s2 x y H2 I2 rx ry q=>ho pins s2 σ H2 x y v u Q I2 rx ry q) hm
def tTest (t : TE) : TT:=fun σ H Q=>t σ H fun x H'=>∃ k,x = .bl k /\ Q k H'
theorem pt_cmpR {op : CmpOp} {r : R2} (ho : OpR X (compareOp op) r) (ha : PE X a ta) (hb : PE X b tb) (hm : behindInMarks op b = false) : PT X (.Compare a [op] [b] pos) (tTest (tOp r ta tb)):=by
  intro pins s σ H Q I h
  refine wpAny_isTrue_Compare1 (thn (ha pins s σ H _ I h) fun v s1 ⟨x,H1,I1,r1,q1⟩=>thn (hb pins s1 σ H1 _ I1 q1) fun u s2 ⟨y,H2,I2,r2,q2⟩=>
    thn (ho pins s2 σ H2 x y v u _ I2 r1 r2 q2) fun c s3 ⟨z,H3,I3,r3,k,e,q3⟩=>?_) hm
  subst e
  cases r3
  exact wpAny_truthy_bool ⟨H3,I3,q3⟩
def tChain (r r' : R2) (ta tb tc : TE) : TE:=fun σ H Q=>ta σ H fun x H1=>tb σ H1 fun y H2=>r x y H2 fun z H3=>∃ k,z = .bl k /\
  (if k = true then tc σ H3 fun w' H4=>r' y w' H4 Q else Q (.bl false) H3)
theorem pe_chain {op op' : CmpOp} {r r' : R2} (ho : OpR X (compareOp op) r) (ho' : OpR X (compareOp op') r') (ha : PE X a ta) (hb : PE X b tb) (hc : PE X c tc)
    (hm : lastMarks [op,op'] [b,c] = false:=by with_unfolding_all rfl) : PE X (.Compare a [op,op'] [b,c] pos) (tChain r r' ta tb tc):=by
  intro pins s σ H Q I h
  refine Compare_chain (thn (ha pins s σ H _ I h) fun v s1 ⟨x,H1,I1,r1,q1⟩=>chain_link (thn (hb pins s1 σ H1 _ I1 q1) fun u s2 ⟨y,H2,I2,r2,q2⟩=>
    thn (ho pins s2 σ H2 x y v u _ I2 r1 r2 q2) fun d s3 ⟨z,H3,I3,r3,k,e,q3⟩=>?_)) hm
  subst e
  cases r3
  refine wpAny_truthy_bool ?_
  cases k with
  | false=>exact ite_ff ⟨.bl false,H3,I3,rfl,q3⟩
  | true=>exact ite_tt (chain_last (thn (hc pins s3 σ H3 _ I3 q3) fun w' s4 ⟨z',H4,I4,r4,q4⟩=>ho' pins s4 σ H4 y z' u w' Q I4 r2 r4 q4))
theorem line63 : (sizeLine : Nat) < 2 ^ 63:=by rw [sizeLine_eq]; decide
theorem op_add_str : OpR X (binaryOp .Add) (fun x y H Q=>∃ i j,x = .str i /\ y = .str j /\ i.length + j.length <= sizeLine /\ Q (.str (i ++ j)) H):=by
  intro pins s σ H x y v u Q I rx ry h
  obtain ⟨i,j,rfl,rfl,hz,q⟩:=h
  obtain ⟨t,rfl⟩:=rx
  obtain ⟨t',rfl⟩:=ry
  exact add_str (fun t' tk=>⟨.str (i ++ j),H,I.tok _,⟨_,rfl⟩,q⟩) hz
theorem vals1 {x : V} {us : List Value} (r : Vals [x] us) : ∃ u,us = [u] /\ RelV x u:=by
  cases r with
  | cons r1 r2=>cases r2; exact ⟨_,rfl,r1⟩
theorem vals2 {x y : V} {us : List Value} (r : Vals [x,y] us) : ∃ u w',us = [u,w'] /\ RelV x u /\ RelV y w':=by
  cases r with
  | cons r1 r2=>
    cases r2 with
    | cons r3 r4=>cases r4; exact ⟨_,_,rfl,r1,r3⟩
theorem call_max2 (hc : X.calm = true) : CallR X (.builtin "max") (fun xs H Q=>∃ i j,xs = [.int i,.int j] /\ Q (.int (if j > i then j else i)) H):=by
  intro pins s σ H xs us Q I r h
  obtain ⟨i,j,rfl,q⟩:=h
  obtain ⟨u,w',rfl,⟨t,rfl⟩,⟨t',rfl⟩⟩:=vals2 r
  refine max_two_ints (I.ok.hd hc) fun h' tk k=>⟨_,H,I.kept k,?_,q⟩
  by_cases hj : j > i
  · rw [if_pos hj,if_pos hj]; exact ⟨_,rfl⟩
  · rw [if_neg hj,if_neg hj]; exact ⟨_,rfl⟩
theorem call_min2 (hc : X.calm = true) : CallR X (.builtin "min") (fun xs H Q=>∃ i j,xs = [.int i,.int j] /\ Q (.int (if j < i then j else i)) H):=by
  intro pins s σ H xs us Q I r h
  obtain ⟨i,j,rfl,q⟩:=h
  obtain ⟨u,w',rfl,⟨t,rfl⟩,⟨t',rfl⟩⟩:=vals2 r
  refine min_two_ints (I.ok.hd hc) fun h' tk k=>⟨_,H,I.kept k,?_,q⟩
  by_cases hj : j < i
  · rw [if_pos hj,if_pos hj]; exact ⟨_,rfl⟩
  · rw [if_neg hj,if_neg hj]; exact ⟨_,rfl⟩
end
end L2
namespace L2
open PySem PySem.Spec PyProof.Rows
structure ObjM (h : Heap) (x dx C : Addr) (mA : Str -> Option Value) : Prop where
  obj : h.get? x = some (PySem.W.instObj C dx)
  ns : h.Ns1 dx mA
  ne : dx ≠ x
theorem lookIn_ns {h : Heap} {dx : Addr} {mA : Str -> Option Value} (n : h.Ns1 dx mA) : ∃ od,h.get? dx = some od /\ ∀ name,PySem.W.lookIn name od = some (mA name):=by
  obtain ⟨o,es,ep,ho,hd,hk,_,hm⟩:=n
  refine ⟨o,ho,fun name=>?_⟩
  have e:=hm name
  unfold nsFind findBy at e
  rw [<- Array.find?_toList] at e
  unfold PySem.W.lookIn
  rw [hd]
  dsimp only
  split
  · rename_i y q
    rw [q] at e
    exact congrArg some e
  · rename_i q
    rw [q] at e
    have a : es.toList.any (·.refKey) = false:=by
      rw [List.any_eq_false]
      intro y hy
      obtain ⟨z,t,hkey⟩:=hk y (Array.mem_toList_iff.mp hy)
      simp [DictEntry.refKey,hkey]
    have a' : ¬ es.toList.any (·.refKey) = true:=by rw [a]; exact Bool.false_ne_true
    rw [if_neg a']
    exact congrArg some e
theorem ObjM.look {h : Heap} {x dx C : Addr} {mA : Str -> Option Value} (I : ObjM h x dx C mA) : ∃ od,PySem.W.InstAt h x (PySem.W.instObj C dx) C (some od) /\ ∀ name,PySem.W.lookIn name od = some (mA name):=
  let ⟨od,ho,hl⟩:=lookIn_ns I.ns
  ⟨od,⟨I.obj,rfl,rfl,ho⟩,hl⟩
section
variable {prog : Program} {w : World} {A : Around} {E : Value -> Shared -> Prop} {s : Shared} {K : PySem.W.Frag} {x dx C f : Addr} {mA : Str -> Option Value} {name : Str} {v : Value}
end
section
variable {P : Program} {w : World} {H H' : Hp} {h h' : Heap} {a C dx : Addr} {fs fs' : List (Str × V)}
theorem ins_get (hok : HOk P w H h) (e : H a = some (.ins C dx fs)) : ∃ mA,ObjM h a dx C mA /\ (∀ f,RelO (fs.lookup f) (mA f)) /\ PySem.Within mA (fs.map (·.1)) /\ fs.length <= 1000 /\ H dx = some (.own a):=by
  obtain ⟨d,z,ne,ob,mA,n,r,q⟩:=(show ObjOk P w H h a (.ins C dx fs) from hok a _ e)
  exact ⟨mA,⟨ob,n,ne⟩,r,q,z,d⟩
end
structure Cls (K : PySem.W.Frag) (C : Addr) : Prop where
  pg : PySem.W.plainGet K C Str.empty = true
  hd : PySem.W.hasDictIn K C = true
  po : PySem.W.plainOver K C = true
  sa : PySem.W.findIn K (.ref C) "__setattr__" = some (some (.builtin "object.__setattr__"))
theorem Cls.get {K : PySem.W.Frag} {C : Addr} (c : Cls K C) (f : Str) : PySem.W.plainGet K C f = true:=c.pg
section
variable {X : Cx} {pins : List (Addr × Obj)} {σ : St} {H : Hp} {s : Shared} {a C dx : Addr} {fs : List (Str × V)} {f : Str} {v : V} {A : Around} {E : Value -> Shared -> Prop}
end
section
variable {X : Cx} {o e value : Expr} {f : Str} {pos pos' tpos : Pos} {ta tv : TE}
end
section
variable {X : Cx} {pins : List (Addr × Obj)} {σ : St} {H : Hp} {s : Shared} {A : Around} {E : Value -> Shared -> Prop} {Q : Value -> Shared -> Prop} {c : Value} {b : Bool}
inductive TyOf (K : PySem.W.Frag) (H : Hp) : V -> Value -> Prop where
  | non : TyOf K H .non (.type "NoneType")
  | bl (x : Bool) : TyOf K H (.bl x) (.type "bool")
  | int (i : Int) : TyOf K H (.int i) (.type "int")
  | str (x : Str) : TyOf K H (.str x) (.type "str")
  | flt (x : UInt64) : TyOf K H (.flt x) (.type "float")
  | lst {a : Addr} {xs : List V} (e : H a = some (.lst xs)) : TyOf K H (.ref a) (.type "list")
  | frz {a : Addr} {o : Obj} {xs : List V} (e : H a = some (.frz o (.lst xs))) : TyOf K H (.ref a) (.type "list")
  | tup {a : Addr} {xs : List V} (e : H a = some (.tup xs)) : TyOf K H (.ref a) (.type "tuple")
  | dK {a : Addr} {kvs : List (Key × V)} (e : H a = some (.dK kvs)) : TyOf K H (.ref a) (.type "dict")
  | dT {a : Addr} {kvs : List (List Key × V)} (e : H a = some (.dT kvs)) : TyOf K H (.ref a) (.type "dict")
  | ins {a C dx : Addr} {fs : List (Str × V)} (e : H a = some (.ins C dx fs)) (cl : Cls K C) (ha : PySem.W.findIn K (.ref C) "__class__" = some (some (.builtin "object.__class__")))
      (hn : PySem.W.specialIn K (.builtin "object.__class__") "__get__" = some (some (.builtin "getset_descriptor.__get__"))) (htk : PySem.W.takesIn K (.builtin "object.__class__") = some true)
      (hm : PySem.W.mroIn K C (.type "object") = some true) : TyOf K H (.ref a) (.ref C)
theorem isinst_ok {x : V} {u t : Value} (I : Inv X pins σ H s) (rx : RelV x u) (ty : TyOf X.K H x t) (e : PySem.W.kitOne X.K t c = some b) (h : ∀ tk,Q (.bool b) { s with toks:=tk }) :
    wpAny (model X.prog X.w) A (call (.builtin "isinstance") [u,c]) Q E s:=by
  cases ty with
  | non=>cases (show u = Value.none from rx); exact PySem.W.kia_one PySem.W.kitx_none I.kIn True.intro e (fun z=>nomatch z) h
  | bl y=>cases (show u = Value.bool y from rx); exact PySem.W.kia_one PySem.W.kitx_bool I.kIn True.intro e (fun z=>nomatch z) h
  | int i=>obtain ⟨t,q⟩:=(show ∃ t,u = Value.int i t from rx); cases q; exact PySem.W.kia_one PySem.W.kitx_int I.kIn True.intro e (fun z=>nomatch z) h
  | str y=>obtain ⟨t,q⟩:=(show ∃ t,u = Value.str y t from rx); cases q; exact PySem.W.kia_one PySem.W.kitx_str I.kIn True.intro e (fun z=>nomatch z) h
  | flt y=>obtain ⟨t,q⟩:=(show ∃ t,u = Value.float y t from rx); cases q; exact PySem.W.kia_one PySem.W.kitx_float I.kIn True.intro e (fun z=>nomatch z) h
  | @lst a xs ea=>
    cases (show u = Value.ref a from rx)
    obtain ⟨_,_,n,_,h1⟩:=(show ObjOk X.prog X.w H s.heap a (.lst xs) from I.hok a _ ea)
    exact PySem.W.kia_one PySem.W.kitx_list I.kIn ⟨_,h1,rfl⟩ e (fun z=>nomatch z) h
  | @frz a ob xs ea=>
    cases (show u = Value.ref a from rx)
    obtain ⟨_,_,_,n,_,h1⟩:=(show ObjOk X.prog X.w H s.heap a (.frz ob (.lst xs)) from I.hok a _ ea)
    exact PySem.W.kia_one PySem.W.kitx_list I.kIn ⟨_,h1,rfl⟩ e (fun z=>nomatch z) h
  | @tup a xs ea=>
    cases (show u = Value.ref a from rx)
    obtain ⟨_,_,_,p⟩:=(show ObjOk X.prog X.w H s.heap a (.tup xs) from I.hok a _ ea)
    obtain ⟨o,h1,h2,_⟩:=p
    exact PySem.W.kia_one PySem.W.kitx_tuple I.kIn ⟨o,h1,h2⟩ e (fun z=>nomatch z) h
  | @dK a kvs ea=>
    cases (show u = Value.ref a from rx)
    obtain ⟨_,_,vs,_,p⟩:=(show ObjOk X.prog X.w H s.heap a (.dK kvs) from I.hok a _ ea)
    obtain ⟨o,es,ep,h1,h2,_⟩:=p
    exact PySem.W.kia_one PySem.W.kitx_dict I.kIn ⟨o,h1,h2.1⟩ e (fun z=>nomatch z) h
  | @dT a kvs ea=>
    cases (show u = Value.ref a from rx)
    obtain ⟨_,_,xs,_,o,es,ep,h1,h2,_⟩:=(show ObjOk X.prog X.w H s.heap a (.dT kvs) from I.hok a _ ea)
    exact PySem.W.kia_one PySem.W.kitx_dict I.kIn ⟨o,h1,h2.1⟩ e (fun z=>nomatch z) h
  | @ins a C dx fs ea cl ha hn htk hm=>
    cases (show u = Value.ref a from rx)
    obtain ⟨mA,O,_⟩:=ins_get I.hok ea
    obtain ⟨od,J,_⟩:=O.look
    exact PySem.W.kia_one (PySem.W.kitx_own (cl.get _) cl.hd ha hn htk hm) I.kIn J e (fun z=>nomatch z) h
end
end L2
namespace L2
open PySem PySem.Spec PyProof.Rows
structure Room (k : Nat) (A : Around) : Prop where
  hd : A.handled = none
  dp : A.depth + 3 * k + 5 < recursionLimit
  un : A.units + 16 * k + 200 < cLine
theorem Room.mono {j k : Nat} {A : Around} (r : Room k A) (h : j <= k) : Room j A:=⟨r.hd,by have:=r.dp; omega,by have:=r.un; omega⟩
theorem Room.deeper {k : Nat} {A : Around} (r : Room (k + 1) A) (env : Env) : Room k (A.deeper env):=
  ⟨r.hd,by have:=r.dp; show A.depth + 1 + 3 * k + 5 < _; omega,by have:=r.un; show A.units + 3 + 16 * k + 200 < _; omega⟩
theorem Room.depth {k : Nat} {A : Around} (r : Room k A) : A.depth < recursionLimit:=by have:=r.dp; omega
theorem Room.units {k : Nat} {A : Around} (r : Room k A) : A.units + 64 < cLine:=by have:=r.un; omega
def tNil : TA:=fun _ H Q=>Q [] H
def tCons (ta : TE) (tr : TA) : TA:=fun σ H Q=>ta σ H fun x H1=>tr σ H1 fun xs H2=>Q (x :: xs) H2
section
variable {X : Cx} {e : Expr} {es : List Expr} {te : TE} {t : TA} {pos : Pos}
theorem pa_nil : PA X [] tNil:=fun _ _ _ _ H Q I h=>Calls.spliced_nil ⟨[],H,I,.nil,h⟩
theorem pa_cons (ha : PE X e te) (hr : PA X es t) (hs : starEach (e :: es) X.env = (false,eval e X.env) :: starEach es X.env:=by rfl) : PA X (e :: es) (tCons te t):=by
  intro pos pins s σ H Q I h
  rw [hs]
  show wpAny _ _ (spliced ((false,eval e X.env) :: backTo pos (starEach es X.env))) _ _ s
  refine Calls.spliced_cons (thn (ha pins s σ H _ I h) fun u s1 ⟨x,H1,I1,r1,q1⟩=>?_)
  exact thn (hr pos pins s1 σ H1 _ I1 q1) fun us s2 ⟨xs,H2,I2,r2,q2⟩=>⟨x :: xs,H2,I2,.cons r1 r2,q2⟩
def tTup (t : TA) : TE:=fun σ H Q=>t σ H fun xs H1=>xs.length <= sizeLine /\ ∀ p,H1 p = none -> Q (.ref p) (upd H1 p (.tup xs))
def tLst (t : TA) : TE:=fun σ H Q=>t σ H fun xs H1=>xs.length <= sizeLine /\ ∀ p,H1 p = none -> Q (.ref p) (upd H1 p (.lst xs))
theorem pe_tup {x1} (h : PA X es t) : PE X (.Tuple es x1 pos) (tTup t):=by
  intro pins s σ H Q I hq
  refine wpAny_Tuple_spliced (thn (h pos pins s σ H _ I hq) fun us s1 ⟨xs,H1,I1,r,z,q⟩=>⟨by rw [<- r.length]; exact z,?_⟩)
  have hf : H1 s1.heap.objs.size = none:=I1.hok.fresh (Nat.le_refl _)
  refine ⟨.ref s1.heap.objs.size,upd H1 s1.heap.objs.size (.tup xs),I1.laid (t':=s1.toks) (fun b u e=>Heap.get?_push_of_some _ e) (Nat.le_refl _) ?_,rfl,q _ hf⟩
  exact ⟨z,us,r,⟨_,Heap.get?_push_size _ rfl,rfl,_,rfl⟩⟩
theorem pe_lst (h : PA X es t) : PE X (.List es pos) (tLst t):=by
  intro pins s σ H Q I hq
  refine wpAny_List_spliced (thn (h pos pins s σ H _ I hq) fun us s1 ⟨xs,H1,I1,r,z,q⟩=>⟨by rw [<- r.length]; exact z,?_⟩)
  have hf : H1 s1.heap.objs.size = none:=I1.hok.fresh (Nat.le_refl _)
  refine ⟨.ref s1.heap.objs.size,upd H1 s1.heap.objs.size (.lst xs),I1.laid (t':=s1.toks) (fun b u e=>Heap.get?_push_of_some _ e) (Nat.le_refl _) ?_,rfl,q _ hf⟩
  exact ⟨z,us,0,r,Heap.get?_push_size _ rfl⟩
end
abbrev Sp:=List V -> Hp -> VK -> XK -> Prop
abbrev CXT:=List Env -> Hp -> Shared -> XK -> Value -> Shared -> Prop
structure Env0 (P : Program) (w : World) (K : PySem.W.Frag) (mg : Str -> Option Value) (base : Heap) (A : Around) (outer : List Env) (s : Shared) (H : Hp) : Prop where
  frames : A.frames = some outer
  mod : Mod K mg base
  bs : ∀ b o,base.get? b = some o -> s.heap.get? b = some o /\ H b = none
  bsz : base.objs.size <= s.heap.objs.size
  funs : s.heap.FunFrames base outer
  frf : ∀ b ∈ frs outer,H b = none
  hok : HOk P w H s.heap
  bare : AllBare s.gens
def CE (outer : List Env) (P : Program) (w : World) (H : Hp) (s : Shared) (Q : VK) (u : Value) (s' : Shared) : Prop:=
  ∃ v H',s'.os = s.os /\ AllBare s'.gens /\ Un (frs outer) [] H H' s.heap s'.heap /\ HOk P w H' s'.heap /\ RelV v u /\ Q v H'
def CR (CX : CXT) (outer : List Env) (P : Program) (w : World) (H : Hp) (s : Shared) (Q : VK) (E : XK) (r : Result) (s' : Shared) : Prop:=
  match r with
  | .ok (.ret u)=>CE outer P w H s Q u s'
  | .ok _=>False
  | .error e=>CX outer H s E e s'
structure FnOk (P : Program) (w : World) (K : PySem.W.Frag) (mg : Str -> Option Value) (base : Heap) (CX : CXT) (k : Nat) (f : Addr) (fd : FuncData) (ps : List Str) (sp : Sp) : Prop where
  len : ∀ vs H Q E,sp vs H Q E -> vs.length = ps.length
  run : ∀ (A : Around) (outer : List Env) (s : Shared) (H : Hp) (args : Args) (us : List Value) (vs : List V) (Q : VK) (E : XK),Room k A -> Env0 P w K mg base A outer s H -> BindsTo s fd args (ps.zip us) -> Vals vs us -> sp vs H Q E ->
    codeAny (model P w) A (.call (.ref f) args) (CR CX outer P w H s Q E) s
theorem FnOk.imp {P : Program} {w : World} {K : PySem.W.Frag} {mg : Str -> Option Value} {base : Heap} {CX : CXT} {k : Nat} {f : Addr} {fd : FuncData} {ps : List Str} {sp sp' : Sp} (F : FnOk P w K mg base CX k f fd ps sp)
    (h : ∀ vs H Q E,sp' vs H Q E -> sp vs H Q E) : FnOk P w K mg base CX k f fd ps sp':=
  ⟨fun vs H Q E q=>F.len vs H Q E (h _ _ _ _ q),fun A outer s H args us vs Q E hr he hb hv hs=>F.run A outer s H args us vs Q E hr he hb hv (h _ _ _ _ hs)⟩
section
variable {X : Cx} {pins : List (Addr × Obj)} {σ : St} {H : Hp} {s s' : Shared}
theorem Inv.env0 (I : Inv X pins σ H s) : Env0 X.prog X.w X.K X.mg X.base X.A X.stack s H:=
  ⟨I.ok.frames,I.ok.mod,I.bs,Nat.le_trans I.ok.bsz I.sz,I.stack,I.stkFree,I.hok,I.bare⟩
theorem Inv.after {Q : VK} {u : Value} (I : Inv X pins σ H s) (h : CE X.stack X.prog X.w H s Q u s') : EP X pins σ Q u s':=by
  obtain ⟨v,H',os,bare,un,hok,r,q⟩:=h
  obtain ⟨hh,g,d,t,os'⟩:=s'
  obtain rfl : os' = s.os:=os
  exact ⟨v,H',I.call (h':=hh) (g':=g) (d':=d) (t':=t) (ch:=[]) un hok bare (fun b z=>absurd z (by simp)),r,q⟩
end
def tCall (sp : Sp) (dvs : List V) (E : XK) (t : TA) : TE:=fun σ H Q=>t σ H fun vs H1=>sp (vs ++ dvs) H1 Q E
def Binds (K : PySem.W.Frag) (fd : FuncData) (ps : List Str) (ds : List Value) : Prop:=
  ∀ (s : Shared) (us : List Value),K.In s.heap -> (us ++ ds).length = ps.length -> BindsTo s fd ⟨us,[]⟩ (ps.zip (us ++ ds))
theorem Binds.all {K : PySem.W.Frag} {fd : FuncData} {ps : List Str} (h : ∀ us : List Value,us.length = ps.length -> bindArgs fd ⟨us,[]⟩ = pure (ps.zip us)) : Binds K fd ps []:=fun s us _ hl=>by
  rw [List.append_nil] at hl ⊢
  exact .of_eq (h us hl)
def Passes (CX : CXT) (X : Cx) (E : XK) : Prop:=∀ (pins : List (Addr × Obj)) (σ : St) (H : Hp) (s : Shared) (e : Value) (s' : Shared),Inv X pins σ H s -> CX X.stack H s E e s' -> X.xe e s'
section
variable {X : Cx} {CX : CXT} {k : Nat} {f C : Addr} {fd : FuncData} {ps : List Str} {sp : Sp} {dvs : List V} {ds : List Value} {E : XK} {x m : Str} {p pos apos : Pos} {e o : Expr} {es : List Expr} {ta : TE} {t : TA}
theorem run_fn {pins : List (Addr × Obj)} {σ : St} {H : Hp} {s : Shared} {Q : VK} {us : List Value} {vs : List V} (F : FnOk X.prog X.w X.K X.mg X.base CX k f fd ps sp) (hr : Room k X.A) (hb : Binds X.K fd ps ds) (hd : Vals dvs ds) (hx : Passes CX X E)
    (I : Inv X pins σ H s) (r : Vals vs us) (h : sp (vs ++ dvs) H Q E) : wpAny (model X.prog X.w) X.A (call (.ref f) us) (EP X pins σ Q) X.xe s:=by
  have r2 : Vals (vs ++ dvs) (us ++ ds):=r.append hd
  have hl : (us ++ ds).length = ps.length:=by rw [<- r2.length]; exact F.len _ _ _ _ h
  refine wpAny_call (codeAny_mono (F.run X.A X.stack s H ⟨us,[]⟩ (us ++ ds) (vs ++ dvs) Q E hr I.env0 (hb s us I.kIn hl) r2 h) fun r s' hq=>?_)
  cases r with
  | error e=>exact hx pins σ H s e s' I hq
  | ok fl=>
    cases fl with
    | ret u=>exact I.after hq
    | next=>exact False.elim hq
    | brk=>exact False.elim hq
    | cont=>exact False.elim hq
theorem pe_call (F : FnOk X.prog X.w X.K X.mg X.base CX k f fd ps sp) (hr : Room k X.A) (hg : Gl X x) (hm : X.mg x = some (.ref f)) (hk : PySem.W.keepIn X.K (.ref f) = true) (hb : Binds X.K fd ps ds) (hd : Vals dvs ds) (hx : Passes CX X E)
    (ha : PA X (e :: es) t) (hdb : (x == ("__debug__" : Str)) = false:=by decide) (he : starEach (e :: es) X.env = (false,eval e X.env) :: starEach es X.env:=by rfl) (hpl : (backTo pos (starEach es X.env)).any (·.1) = false:=by rfl) :
    PE X (.Call (.Name x p) (e :: es) [] pos) (tCall sp dvs E t):=by
  intro pins s σ H Q I h
  refine wpAny_Call_Name_kw (ld_glob I hg hm ?_ hdb)
  refine PySem.W.callWith_K (h₀:=X.base) I.ok.mod.kin hk (thn (ha pos pins s σ H _ I h) fun us s1 ⟨vs,H1,I1,r,q⟩=>⟨I1.kIn,?_⟩) he hpl
  exact run_fn F hr hb hd hx I1 r q
end
section
variable {X : Cx} {CX : CXT} {k : Nat} {f C : Addr} {fd : FuncData} {ps ks : List Str} {sp : Sp} {E : XK} {x m : Str} {p pos apos kpos : Pos} {e o : Expr} {es : List Expr} {kws : List Keyword} {te ta : TE} {t tk : TA} {nm : Option Str}
variable {g : List Value -> List Value -> List Value} {gV : List V -> List V -> List V}
end
structure FnScope (N P : List Str) (sc : Scope) : Prop where
  kind : sc.kind = .function
  co : sc.isCoroutine = false
  gen : sc.isGenerator = false
  nd : N.Nodup
  pre : N.take P.length = P
  par : ∀ x ∈ P,sc.names.lookup x = some .local \/ sc.names.lookup x = some .cell
  nofree : ∀ y ∈ sc.names,y.2 ≠ .free
theorem bindL_out {kindOf : Str -> Option NameKind} {x : Str} : ∀ {binds : List (Str × Value)} {m : Str -> Option Value},(∀ v,(x,v) ∉ binds) -> bindL kindOf binds m x = m x
  | [],_,_=>rfl
  | (n,v) :: r,m,h=>by
    unfold bindL
    rw [bindL_out fun w hw=>h w (List.mem_cons_of_mem _ hw)]
    split
    · have : x ≠ n:=by rintro rfl; exact h v List.mem_cons_self
      simp [this]
    · rfl
theorem bindC_out {kindOf : Str -> Option NameKind} {x : Str} : ∀ {binds : List (Str × Value)} {m : Str -> Option Value},(∀ v,(x,v) ∉ binds) -> bindC kindOf binds m x = m x
  | [],_,_=>rfl
  | (n,v) :: r,m,h=>by
    unfold bindC
    rw [bindC_out fun w hw=>h w (List.mem_cons_of_mem _ hw)]
    split
    · rfl
    · have : x ≠ n:=by rintro rfl; exact h v List.mem_cons_self
      simp [this]
theorem bindL_get {kindOf : Str -> Option NameKind} {x : Str} {v : Value} : ∀ {P : List Str} {vs : List Value} {i : Nat} {m : Str -> Option Value},P.Nodup -> P[i]? = some x -> vs[i]? = some v -> kindOf x = some .local ->
    bindL kindOf (P.zip vs) m x = some v
  | [],_,_,_,_,h,_,_=>by simp at h
  | _ :: _,[],_,_,_,_,h,_=>by simp at h
  | p :: P,w :: vs,0,m,nd,h1,h2,hk=>by
    simp at h1 h2; subst h1; subst h2
    show bindL kindOf ((p,w) :: P.zip vs) m p = _
    unfold bindL
    rw [bindL_out fun v hv=>(List.nodup_cons.mp nd).1 (List.of_mem_zip hv).1,if_pos hk]
    simp
  | p :: P,w :: vs,i + 1,m,nd,h1,h2,hk=>by
    show bindL kindOf ((p,w) :: P.zip vs) m x = _
    unfold bindL
    exact bindL_get (i:=i) (List.nodup_cons.mp nd).2 (by simpa using h1) (by simpa using h2) hk
theorem bindC_get {kindOf : Str -> Option NameKind} {x : Str} {v : Value} : ∀ {P : List Str} {vs : List Value} {i : Nat} {m : Str -> Option Value},P.Nodup -> P[i]? = some x -> vs[i]? = some v -> kindOf x ≠ some .local ->
    bindC kindOf (P.zip vs) m x = some v
  | [],_,_,_,_,h,_,_=>by simp at h
  | _ :: _,[],_,_,_,_,h,_=>by simp at h
  | p :: P,w :: vs,0,m,nd,h1,h2,hk=>by
    simp at h1 h2; subst h1; subst h2
    show bindC kindOf ((p,w) :: P.zip vs) m p = _
    unfold bindC
    rw [bindC_out fun v hv=>(List.nodup_cons.mp nd).1 (List.of_mem_zip hv).1,if_neg hk]
    simp
  | p :: P,w :: vs,i + 1,m,nd,h1,h2,hk=>by
    show bindC kindOf ((p,w) :: P.zip vs) m x = _
    unfold bindC
    exact bindC_get (i:=i) (List.nodup_cons.mp nd).2 (by simpa using h1) (by simpa using h2) hk
def start (N : List Str) (vs : List V) : St:=vs.map some ++ List.replicate (N.length - vs.length) none
def cxOf (CX : CXT) (P : Program) (w : World) (K : PySem.W.Frag) (mg : Str -> Option Value) (base : Heap) (N : List Str) (qual : Str) (scope : Scope) (f : Addr) (cd : Value) (A : Around) (outer : List Env) (s : Shared) (H : Hp) (E : XK) : Cx where
  prog:=P
  w:=w
  K:=K
  mg:=mg
  base:=base
  A:=A.deeper (envOfC qual scope s.heap.objs.size f cd)
  N:=N
  s₀:=s
  H₀:=H
  env:=envOfC qual scope s.heap.objs.size f cd
  outer:=outer
  stack:=envOfC qual scope s.heap.objs.size f cd :: outer
  ex:=[]
  calm:=true
  fn:=fun _=>true
  pn:=[]
  xe:=fun e s'=>wpAny (model P w) (A.deeper (envOfC qual scope s.heap.objs.size f cd)) (leaving (envOfC qual scope s.heap.objs.size f cd) e) (fun _ s''=>CX outer H s E e s'') (fun e' s''=>CX outer H s E e' s'') s'
theorem cell_has {sc : Scope} {n : Nat} {x : Str} (h : sc.names.lookup x = some .cell) : ∃ c,(cellsFrom n sc.names []).lookup x = some c:=by
  have q:=PySem.W.cellsFrom_some sc.names n [] (.inl h)
  exact Option.isSome_iff_exists.mp q
theorem inv_start {CX : CXT} {P : Program} {w : World} {K : PySem.W.Frag} {mg : Str -> Option Value} {base : Heap} {N ps : List Str} {qual : Str} {scope : Scope} {f : Addr} {cd : Value} {A : Around} {outer : List Env} {s s1 : Shared} {H : Hp} {E : XK} {us : List Value} {vs : List V}
    (S : FnScope N ps scope) (hd : A.handled = none) (e0 : Env0 P w K mg base A outer s H) (hl : vs.length = ps.length) (r : Vals vs us)
    (x : InCallC s s.heap.objs.size (bindL (envOfC qual scope s.heap.objs.size f cd).kindOf (ps.zip us) fun _=>none) (cellsFrom (s.heap.objs.size + 1) scope.names []) (bindC (envOfC qual scope s.heap.objs.size f cd).kindOf (ps.zip us) fun _=>none) s1) :
    Inv (cxOf CX P w K mg base N qual scope f cd A outer s H E) [] (start N vs) H s1:=by
  have hpl : ps.length <= N.length:=by have:=congrArg List.length S.pre; rw [List.length_take] at this; omega
  obtain ⟨h1,tk,rfl,hk⟩:=x.done
  have noA : ∀ b : Addr,b ∉ (cxOf CX P w K mg base N qual scope f cd A outer s H E).ex:=fun b z=>absurd (show b ∈ ([] : List Addr) from z) (by simp)
  refine ⟨⟨e0.mod,S.kind,rfl,rfl,Nat.le_refl _,fun y z c h1 h2=>?_,fun y hy=>?_,fun y c _ h=>?_,fun _=>hd,Around.frames_deeper e0.frames,.inr ⟨rfl,rfl⟩,fun b z=>absurd z (noA b),e0.bs,e0.bsz,fun b _ _=>noA b,fun b z=>absurd z (noA b),e0.funs,e0.frf⟩,
    rfl,e0.bare,Un.kept hk,⟨_,x.toInCall.ns,fun i y v h1 h2 h3=>?_⟩,fun y c h=>⟨_,x.cell y c h⟩,e0.hok.fresh (Nat.le_refl _),fun y c h=>?_,fun p hp=>absurd (show p ∈ ([] : List (Addr × Obj)) from hp) (by simp),e0.hok.kept hk,?_⟩
  · exact name_of_addr x.apart (PySem.mem_of_lookup h1) (PySem.mem_of_lookup h2)
  · have hy : scope.names.lookup y = some .cell \/ scope.names.lookup y = some .free:=hy
    rcases hy with hy | hy
    · exact cell_has hy
    · exact absurd rfl (S.nofree _ (PySem.mem_of_lookup hy))
  · exact Nat.le_of_lt (x.above y c (PySem.mem_of_lookup h))
  · have hi : i < vs.length:=by
      unfold start at h2
      by_cases hi : i < vs.length
      · exact hi
      · rw [List.getElem?_append_right (by simpa using hi)] at h2
        rw [List.getElem?_replicate] at h2
        split at h2 <;> cases h2
    have ha : vs[i]? = some v:=by
      unfold start at h2
      rw [List.getElem?_append_left (by simpa using hi),List.getElem?_map] at h2
      cases e : vs[i]? with
      | none=>rw [e] at h2; cases h2
      | some a=>rw [e] at h2; cases h2; rfl
    obtain ⟨u,hu,rv⟩:=r.get ha
    have hp : ps[i]? = some y:=by
      rw [<- S.pre,List.getElem?_take_of_lt (by omega)]; exact h1
    have ndP : ps.Nodup:=by rw [<- S.pre]; exact S.nd.sublist (List.take_sublist _ _)
    refine ⟨u,rv,?_⟩
    rcases S.par y (List.mem_of_getElem? hp) with k | k
    · exact .inl ⟨k,bindL_get ndP hp hu k⟩
    · obtain ⟨c,e⟩:=cell_has (n:=s.heap.objs.size + 1) k
      refine .inr ⟨.inl k,c,e,?_⟩
      have q:=x.cell y c e
      rw [bindC_get ndP hp hu (by show scope.names.lookup y ≠ _; rw [k]; decide)] at q
      exact q
  · exact e0.hok.fresh (Nat.le_of_lt (x.above y c (PySem.mem_of_lookup h)))
  · unfold start
    show _ = N.length
    rw [List.length_append,List.length_map,List.length_replicate]
    omega
theorem fn_of {CX : CXT} {P : Program} {w : World} {K : PySem.W.Frag} {mg : Str -> Option Value} {base : Heap} {k : Nat} {f : Addr} {name qual : Str} {params : Arguments} {body : List Stmt} {scope : Scope} {dV kV doc pm cdv ct oc : Value} {an od : Option Addr}
    {osl : Array (Option Value)} {N ps : List Str} {sp : Sp} (lk : K.lookup f = some ⟨oc,od,.func (PySem.W.fnOf name qual params body scope dV kV doc pm an cdv ct),osl⟩) (hcd : PySem.W.codeIn K cdv qual = true) (S : FnScope N ps scope)
    (len : ∀ vs H Q E,sp vs H Q E -> vs.length = ps.length)
    (hbody : ∀ (A : Around) (outer : List Env) (s : Shared) (H : Hp) (vs : List V) (Q : VK) (E : XK),Room k (A.deeper (envOfC qual scope s.heap.objs.size f cdv)) -> sp vs H Q E ->
      ∃ t,PSs (cxOf CX P w K mg base N qual scope f cdv A outer s H E) body t /\ t { nx:=fun _ H'=>Q .non H',rt:=Q } (start N vs) H) :
    FnOk P w K mg base CX (k + 1) f (PySem.W.fnOf name qual params body scope dV kV doc pm an cdv ct) ps sp:=by
  refine ⟨len,fun A outer s H args us vs Q E hr e0 hb r hsp=>?_⟩
  have hl:=len _ _ _ _ hsp
  have KX : K.In s.heap:=e0.mod.kin.keeps fun b o e=>(e0.bs b o e).1
  have lim : s.heap.NoLimit:=e0.mod.nolimit.keeps fun b o e=>(e0.bs b o e).1
  have hkind : ∀ y ∈ ps.zip us,scope.names.lookup y.1 = some .local \/ (scope.names.lookup y.1 = some .cell /\ ((cellsFrom (s.heap.objs.size + 1) scope.names []).lookup y.1).isSome = true):=fun ⟨n,v⟩ hy=>by
    rcases S.par n (List.of_mem_zip hy).1 with q | q
    · exact .inl q
    · exact .inr ⟨q,PySem.W.cellsFrom_some _ _ _ (.inl q)⟩
  refine codeAny_call_function hr.depth (KX _ _ lk) rfl S.co S.gen rfl (PySem.W.codeRec_of KX hcd) (hb _ _ _ _ ?_)
  refine wpAny_newFunctionEnv_cells S.kind hkind fun env he s1 x=>?_
  subst he
  refine ⟨lim.keeps x.toInCall.keep,codeAny_func ?_⟩
  obtain ⟨t,ht,hq⟩:=hbody A outer s H vs Q E (hr.deeper _) hsp
  have I : Inv (cxOf CX P w K mg base N qual scope f cdv A outer s H E) [] (start N vs) H s1:=inv_start S hr.hd e0 hl r x
  refine wpAny_mono (ht [] s1 (start N vs) H _ I hq) (fun fl s' hs=>?_) fun e s' hs=>hs
  have fin : ∀ {σ' : St} {H' : Hp} {v : V} {u : Value},Inv (cxOf CX P w K mg base N qual scope f cdv A outer s H E) [] σ' H' s' -> RelV v u -> Q v H' -> CE outer P w H s Q u s':=
    fun {σ' H' v u} J rv q=>⟨v,H',J.os,J.bare,J.base,J.hok,rv,q⟩
  cases fl with
  | ret u=>
    obtain ⟨v,σ',H',J,rv,q⟩:=hs
    exact fin J rv q
  | next=>
    obtain ⟨σ',H',J,q⟩:=hs
    exact fin (v:=V.non) (u:=Value.none) J rfl q
  | brk=>
    obtain ⟨_,_,_,q⟩:=hs
    exact False.elim q
  | cont=>
    obtain ⟨_,_,_,q⟩:=hs
    exact False.elim q
end L2
namespace L2
open PySem PySem.Spec PyProof.Rows
section
variable {X : Cx} {x : Str} {p pos : Pos} {e : Expr} {es : List Expr} {t : TA} {id T : String} {r : List V -> Hp -> VK -> Prop}
def tCB (r : List V -> Hp -> VK -> Prop) (t : TA) : TE:=fun σ H Q=>t σ H fun vs H1=>r vs H1 Q
theorem pe_callB (hc : CallR X (.builtin id) r) (hg : Gl X x) (hm : X.mg x = none) (hv : bootBuiltins x = some (.builtin id)) (ha : PA X (e :: es) t) (hn : x ≠ "__name__" := by decide) (hdb : (x == ("__debug__" : Str)) = false:=by decide)
    (he : starEach (e :: es) X.env = (false,eval e X.env) :: starEach es X.env:=by rfl) (hpl : (backTo pos (starEach es X.env)).any (·.1) = false:=by rfl) : PE X (.Call (.Name x p) (e :: es) [] pos) (tCB r t):=by
  intro pins s σ H Q I h
  refine wpAny_Call_Name_kw (ld_blt I hg hm hv ?_ hn hdb)
  exact PyProof.Rows.callWith_builtin1 (thn (ha pos pins s σ H _ I h) fun us s1 ⟨vs,H1,I1,r1,q1⟩=>hc pins s1 σ H1 vs us Q I1 r1 q1) he hpl
theorem pe_callTy (hc : CallR X (.type T) r) (hg : Gl X x) (hm : X.mg x = none) (hv : bootBuiltins x = some (.type T)) (ha : PA X (e :: es) t) (hn : x ≠ "__name__" := by decide) (hdb : (x == ("__debug__" : Str)) = false:=by decide)
    (he : starEach (e :: es) X.env = (false,eval e X.env) :: starEach es X.env:=by rfl) (hpl : (backTo pos (starEach es X.env)).any (·.1) = false:=by rfl) : PE X (.Call (.Name x p) (e :: es) [] pos) (tCB r t):=by
  intro pins s σ H Q I h
  refine wpAny_Call_Name_kw (ld_blt I hg hm hv ?_ hn hdb)
  exact PyProof.Rows.callWith_type1 (thn (ha pos pins s σ H _ I h) fun us s1 ⟨vs,H1,I1,r1,q1⟩=>hc pins s1 σ H1 vs us Q I1 r1 q1) he hpl
end
end L2
namespace HT
open PySem PyProof.Rows
def lexLt : List Int -> List Int -> Bool
  | [],[]=>false
  | [],_ :: _=>true
  | _ :: _,[]=>false
  | x :: xs,y :: ys=>if x = y then lexLt xs ys else decide (x < y)
theorem lexLt_cons (x y : Int) (xs ys : List Int) : lexLt (x :: xs) (y :: ys) = if x = y then lexLt xs ys else decide (x < y):=rfl
theorem lexLt_nil_nil : lexLt [] [] = false:=rfl
theorem lexLt_nil_cons (y : Int) (ys : List Int) : lexLt [] (y :: ys) = true:=rfl
theorem lexLt_cons_nil (x : Int) (xs : List Int) : lexLt (x :: xs) [] = false:=rfl
theorem eqAt_int (A : Around) (s : Shared) (a : Int) (t : Tok) (c : Int) (u : Tok) : ∃ e,SeqAt.EqAt A s (.int a t) (.int c u) e /\ (e = true <-> a = c):=
  ⟨(a == c),SeqAt.EqAt.int_int a t c u,by simp⟩
theorem rcLt_int (A : Around) (s : Shared) (a : Int) (t : Tok) (c : Int) (u : Tok) (prog : Program) (w : World) (E : Value -> Shared -> Prop) (Q : Value -> Shared -> Prop) (h : Q (.bool (decide (a < c))) s) :
    wpAny (model prog w) A (richCompare .Lt (.int a t) (.int c u)) Q E s:=
  (PyProof.Rows.lt_int h : wpAny (model prog w) A (compareOp .Lt (.int a t) (.int c u)) Q E s)
section
open PySem.SeqAt
open PySem.AutoSeq1 (wpAny_loadPart')
open PySem.MeetsSeq PySem.MeetsSeq2 PySem.MeetsSeq3
theorem tuple_lt_ints (l b : Addr) (items items2 : Array Value) (n n2 : Nat) (dd dd2 : Option Addr) (sl sl2 : Array (Option Value)) (ns ms : List Int) (hi : IntsAre items.toList ns) (hj : IntsAre items2.toList ms) :
    Meets (Builtin.«tuple.__lt__» ⟨[.ref l,.ref b],[]⟩)
      (fun _ R s=>s.heap.get? l = some { cls:=.type "tuple",dict:=dd,data:=.seq items n,slots:=sl } /\ s.heap.get? b = some { cls:=.type "tuple",dict:=dd2,data:=.seq items2 n2,slots:=sl2 } /\
        R (.ok (.ret (.bool (lexLt ns ms)))) s):=
  .of_wp fun prog w A R s h=>by
    obtain ⟨hp,g,d,tk,os⟩:=s; obtain ⟨hl,hb,h⟩:=h
    have f2:=AutoSeq1.sub_tuple_tuple
    have z1 : items.size = ns.length:=by rw [<- hi.length]; simp
    have z2 : items2.size = ms.length:=by rw [<- hj.length]; simp
    wp_walk using wpAny_loadPart' hl,wpAny_loadPart' hb,wpAny_forIn_list _ (fun rest b s'=>b.1 = none /\ s' = ⟨hp,g,d,tk,os⟩ /\ ∃ (vs ws : List Value) (ns' ms' : List Int),rest = vs.zip ws /\
      IntsAre vs ns' /\ IntsAre ws ms' /\ ns'.length + items2.size = ms'.length + items.size /\ R (.ok (.ret (.bool (lexLt ns' ms')))) ⟨hp,g,d,tk,os⟩) _
    case turn=>
      rintro ⟨y,x⟩ rest b s' ⟨hb',rfl,vs,ws,ns',ms',hz,hvi,hwi,hlen,hR⟩
      cases hvi with
      | nil=>rw [List.zip_nil_left] at hz; cases hz
      | cons a t hvi'=>
        cases hwi with
        | nil=>rw [List.zip_nil_right] at hz; cases hz
        | cons c u hwi'=>
          rw [List.zip_cons_cons] at hz
          injection hz with hyx hrest
          injection hyx with hy hx
          subst hy hx
          rw [lexLt_cons] at hR
          simp only [List.length_cons] at hlen
          obtain ⟨e,he,hiff⟩:=eqAt_int A.in1 ⟨hp,g,d,tk,os⟩ a t c u
          refine wpAny_bind (he prog w _ _ ?_)
          cases e with
          | true=>
            rw [if_pos (hiff.mp rfl)] at hR
            wp_walk
            exact ⟨rfl,rfl,_,_,_,_,hrest,hvi',hwi',by omega,hR⟩
          | false=>
            rw [if_neg (fun q=>absurd (hiff.mpr q) Bool.false_ne_true)] at hR
            have hri:=rcLt_int A.in1 ⟨hp,g,d,tk,os⟩ a t c u prog w
            wp_walk using hri
            exact ⟨_,rfl,by simpa using hR⟩
    case fin=>
      rintro ⟨b1,b2⟩ s' ⟨hb',rfl,vs,ws,ns',ms',hz,hvi,hwi,hlen,hR⟩
      simp only at hb'
      subst hb'
      have hv : lexLt ns' ms' = decide (items.size < items2.size):=by
        cases hvi with
        | nil=>
          cases hwi with
          | nil=>
            simp only [List.length_nil] at hlen
            rw [lexLt_nil_nil]
            exact (decide_eq_false (by omega)).symm
          | cons c u hw=>
            simp only [List.length_nil,List.length_cons] at hlen
            rw [lexLt_nil_cons]
            exact (decide_eq_true (by omega)).symm
        | cons a t hv=>
          cases hwi with
          | nil=>
            simp only [List.length_nil,List.length_cons] at hlen
            rw [lexLt_cons_nil]
            exact (decide_eq_false (by omega)).symm
          | cons c u hw=>
            rw [List.zip_cons_cons] at hz
            cases hz
      rw [hv] at hR
      wp_walk
      exact ⟨_,rfl,by simpa [Builtin.Tuple.tupleCompareSizes] using hR⟩
    case h=>
      exact ⟨rfl,rfl,items.toList,items2.toList,ns,ms,rfl,hi,hj,by omega,h⟩
end
section
variable {prog : Program} {w : World} {A : Around} {E : Value -> Shared -> Prop} {s : Shared}
theorem lt_tupInts {l b : Addr} {items items2 : Array Value} {ns ms : List Int} {Q : Value -> Shared -> Prop} (hl : IsTup s.heap l items) (hb : IsTup s.heap b items2) (hi : IntsAre items.toList ns) (hj : IntsAre items2.toList ms)
    (hu : A.units < cLine) (h : Q (.bool (lexLt ns ms)) s) : wpAny (model prog w) A (compareOp .Lt (.ref l) (.ref b)) Q E s:=by
  obtain ⟨⟨cls,dd,data,sl⟩,ho,hc,n,hd⟩:=id hl
  obtain ⟨⟨cls2,dd2,data2,sl2⟩,ho2,hc2,n2,hd2⟩:=id hb
  simp only at hc hd hc2 hd2
  subst hc hd hc2 hd2
  exact richCompare_meets_room (op:=.Lt) ⟨_,ho,rfl⟩ ⟨_,ho2,rfl⟩ PySem.F.slot_tuple_lt PySem.F.entry_tuple_lt (PySem.F.args_tuple_lt_2 _ _) (tuple_lt_ints l b items items2 n n2 dd dd2 sl sl2 ns ms hi hj)
    ⟨ho,ho2,show Value.bool (lexLt ns ms) ≠ Value.notImplemented /\ Q (.bool (lexLt ns ms)) s from ⟨(fun x=>nomatch x),h⟩⟩ hu
theorem cat_tup {t b : Addr} {vs ws : List Value} {Q : Value -> Shared -> Prop} (ht : IsTup s.heap t vs.toArray) (hb : IsTup s.heap b ws.toArray) (hv : vs ≠ [])
    (h1 : ws = [] -> Q (.ref t) s) (h2 : ws ≠ [] -> Q (.ref s.heap.objs.size) { s with heap:=s.heap.push { cls:=.type "tuple",data:=.seq (vs ++ ws).toArray } })
    (hsz : vs.length + ws.length <= sizeLine) : wpAny (model prog w) A (binaryOp .Add (.ref t) (.ref b)) Q E s:=by
  obtain ⟨⟨cls,dd,data,sl⟩,ho,hc,n,hd⟩:=id ht
  obtain ⟨⟨cls2,dd2,data2,sl2⟩,ho2,hc2,n2,hd2⟩:=id hb
  simp only at hc hd hc2 hd2
  subst hc hd hc2 hd2
  have e : vs.toArray ++ ws.toArray = (vs ++ ws).toArray:=by simp
  by_cases hw : ws = []
  · exact concat_meets ⟨_,ho,rfl⟩ ⟨_,ho2,rfl⟩ noFill_tuple_add seq_tuple_add PySem.F.slot_tuple_add PySem.F.entry_tuple_add (PySem.F.args_tuple_add_2 _ _)
      (tuple_addW1 t b vs.toArray ws.toArray n n2 dd dd2 sl sl2 (by simpa using hv) (by simp [hw])) ⟨ho,ho2,h1 hw⟩
  · refine concat_meets ⟨_,ho,rfl⟩ ⟨_,ho2,rfl⟩ noFill_tuple_add seq_tuple_add PySem.F.slot_tuple_add PySem.F.entry_tuple_add (PySem.F.args_tuple_add_2 _ _)
      (tuple_addW2 t b vs.toArray ws.toArray n n2 dd dd2 sl sl2 (by simpa using hv) (by simpa using hw) (by rw [List.size_toArray,List.size_toArray]; exact hsz)) ⟨ho,ho2,?_⟩
    rw [e]
    exact h2 hw
def sIx (n d : Nat) : Option Int -> Nat
  | none=>d
  | some v=>if v < 0 then (v + (n : Int)).toNat else min v.toNat n
theorem sIx_none (n d : Nat) : sIx n d none = d:=rfl
theorem sIx_nat (n d k : Nat) : sIx n d (some (k : Int)) = min k n:=by
  show (if (k : Int) < 0 then ((k : Int) + (n : Int)).toNat else min (k : Int).toNat n) = min k n
  rw [if_neg (by omega),Int.toNat_natCast]
theorem sIx_le (n d : Nat) (hd : d <= n) (o : Option Int) : sIx n d o <= n:=by
  cases o with
  | none=>exact hd
  | some v=>
    show (if v < 0 then (v + (n : Int)).toNat else min v.toNat n) <= n
    by_cases hv : v < 0
    · rw [if_pos hv]; omega
    · rw [if_neg hv]; exact Nat.min_le_right _ _
theorem clip_eq (v : Int) (n d : Nat) : (if v < 0 then max (v + (n : Int)) 0 else min v (n : Int)) = ((sIx n d (some v) : Nat) : Int):=by
  show (if v < 0 then max (v + (n : Int)) 0 else min v (n : Int)) = (((if v < 0 then (v + (n : Int)).toNat else min v.toNat n) : Nat) : Int)
  by_cases hv : v < 0
  · simp only [if_pos hv]; omega
  · simp only [if_neg hv]; omega
theorem adjust_gen (lo hi : Option Int) (n : Nat) : Builtin.Slice.sliceAdjust lo hi 1 (n : Int) = (((sIx n 0 lo : Nat) : Int),((sIx n n hi : Nat) : Int)):=by
  have h1 : ¬ ((1 : Int) < 0):=by omega
  unfold Builtin.Slice.sliceAdjust
  simp only [h1,if_false]
  refine Prod.ext ?_ ?_
  · cases lo with
    | none=>rfl
    | some v=>exact clip_eq v n 0
  · cases hi with
    | none=>rfl
    | some v=>exact clip_eq v n n
theorem places_gen (i j : Nat) : Builtin.Slice.slicePlaces (i : Int) (j : Int) 1 = j - i:=by
  unfold Builtin.Slice.slicePlaces
  have h1 : (1 : Int) > 0:=by omega
  simp only [h1,if_true,Int.ediv_one]
  split <;> omega
theorem slicePart_ {v : Value} {o : Option Int} {Q : Option Int -> Shared -> Prop} (p : IsPart v o) (h : Q o s) : wpAny (model prog w) A (Builtin.Slice.slicePartIndex v) Q E s:=by
  cases p with
  | none=>exact slicePart_none h
  | int i t=>exact slicePart_int h
theorem sliceApplied_gen {sl : Addr} {vl vu : Value} {lo hi : Option Int} {n : Nat} {Q : Int × Int × Nat -> Shared -> Prop} (hs : s.heap.IsSliceOf sl vl vu .none) (pl : IsPart vl lo) (pu : IsPart vu hi)
    (h : Q (((sIx n 0 lo : Nat) : Int),1,sIx n n hi - sIx n 0 lo) s) : wpAny (model prog w) A (Builtin.Slice.sliceApplied (.ref sl) (pure (n : Int))) Q E s:=by
  obtain ⟨os,hos,hcs,hds⟩:=id hs
  unfold Builtin.Slice.sliceApplied Builtin.Slice.sliceFields
  refine wpAny_bind (wpAny_bind (wpAny_field hos hds (x:=vl) rfl (wpAny_bind (wpAny_field hos hds (x:=vu) rfl (wpAny_bind (wpAny_field hos hds (x:=.none) rfl (wpAny_pure ?_)))))))
  refine wpAny_bind (slicePart_none ?_)
  show wpAny _ _ (if ((1 : Int) == 0) = true then _ else _) _ _ s
  rw [if_neg (by decide)]
  refine wpAny_bind (slicePart_ pl (wpAny_bind (slicePart_ pu (wpAny_bind (wpAny_pure ?_)))))
  show wpAny _ _ (match Builtin.Slice.sliceAdjust lo hi 1 (n : Int) with | (lo,hi)=>pure (lo,(1 : Int),Builtin.Slice.slicePlaces lo hi 1)) _ _ s
  rw [adjust_gen lo hi n]
  show wpAny _ _ (pure (((sIx n 0 lo : Nat) : Int),(1 : Int),Builtin.Slice.slicePlaces ((sIx n 0 lo : Nat) : Int) ((sIx n n hi : Nat) : Int) 1)) _ _ s
  rw [places_gen]
  exact wpAny_pure h
theorem pick_gen (xs : Array Value) (i k : Nat) : ((List.range k).filterMap fun (m : Nat)=>xs[((i : Int) + (m : Int) * 1).toNat]?).toArray = ((xs.toList.drop i).take k).toArray:=by
  have e : (fun (m : Nat)=>xs[((i : Int) + (m : Int) * 1).toNat]?) = fun m=>xs[i + m]?:=by
    funext m
    have : ((i : Int) + (m : Int) * 1).toNat = i + m:=by omega
    rw [this]
  rw [e]
  have:=pick_run xs i k
  rw [List.filterMap_map] at this
  have e2 : ((fun x=>xs[x]?) ∘ fun x=>i + x) = fun m=>xs[i + m]?:=rfl
  rw [e2] at this
  rw [this]
theorem getItem_tuple_cut {t sl : Addr} {items : Array Value} {vl vu : Value} {lo hi : Option Int} {Q : Value -> Shared -> Prop} (ht : IsTup s.heap t items) (hs : s.heap.IsSliceOf sl vl vu .none) (pl : IsPart vl lo) (pu : IsPart vu hi)
    (hw : ¬ (sIx items.size 0 lo = 0 /\ sIx items.size items.size hi = items.size))
    (h : Q (.ref s.heap.objs.size) { s with heap:=s.heap.push { cls:=.type "tuple",data:=.seq ((items.toList.drop (sIx items.size 0 lo)).take (sIx items.size items.size hi - sIx items.size 0 lo)).toArray } })
    (hsz : items.size <= sizeLine) : wpAny (model prog w) A (getItem (.ref t) (.ref sl)) Q E s:=by
  have htake : sizeOk (.seq ((items.toList.drop (sIx items.size 0 lo)).take (sIx items.size items.size hi - sIx items.size 0 lo)).toArray):=by
    show ((items.toList.drop (sIx items.size 0 lo)).take (sIx items.size items.size hi - sIx items.size 0 lo)).toArray.size <= sizeLine
    rw [List.size_toArray,List.length_take,List.length_drop,Array.length_toList]
    omega
  have hj : sIx items.size items.size hi <= items.size:=sIx_le _ _ (Nat.le_refl _) hi
  obtain ⟨os,hos,hcs,hds⟩:=id hs
  have hTs : s.TypeIs (.ref sl) "slice" := ⟨os,hos,hcs⟩
  unfold getItem
  try with_reducible refine wpAny_holding ?_
  first | refine wpAny_bind (wpAny_pure ?_) | skip
  refine wpAny_bind (wpAny_sequenceKey ht.typeIs (by decide) ?_)
  refine wpAny_bind (wpAny_callSpecial?_slot (name:=Str.ofString "__getitem__") ht.typeIs PyProof.Rows.slot_tuple_getitem
    (wpAny_call_entry PyProof.Rows.slot_tuple_getitem ht.typeIs entry_tuple_getitem ?_ (args_tuple_getitem _ _)))
  show wpAny _ _ (Builtin.Tuple.tupleItemsOf (.ref t) >>= _) _ _ s
  refine wpAny_bind (tupleItemsOf_ ht ?_)
  refine wpAny_bind (wpAny_typeOf hTs ?_)
  rw [if_pos (by decide)]
  refine wpAny_bind (sliceApplied_gen hs pl pu ?_)
  have hno : ¬ ((((sIx items.size 0 lo : Nat) : Int) == 0 && (1 : Int) == 1 && (sIx items.size items.size hi - sIx items.size 0 lo) == items.size) = true):=by
    intro q
    rw [Bool.and_eq_true,Bool.and_eq_true] at q
    have q1 : ((sIx items.size 0 lo : Nat) : Int) = 0:=eq_of_beq q.1.1
    have q2 : sIx items.size items.size hi - sIx items.size 0 lo = items.size:=eq_of_beq q.2
    exact hw ⟨by omega,by omega⟩
  show wpAny _ _ (if (((sIx items.size 0 lo : Nat) : Int) == 0 && (1 : Int) == 1 && (sIx items.size items.size hi - sIx items.size 0 lo) == items.size) = true then _ else _) _ _ s
  rw [if_neg hno,pick_gen]
  first
    | exact wpAny_bind (m:=Builtin.Tuple.tupleExact _) (wpAny_newObj_type (wpAny_pure ⟨_,rfl,wpAny_pure h⟩) htake)
    | exact wpAny_bind (m:=Builtin.Tuple.tupleExact _) (wpAny_newObj_type (wpAny_bind (wpAny_pure (wpAny_pure ⟨_,rfl,wpAny_pure h⟩))) htake)
    | exact wpAny_bind (wpAny_bind (m:=Builtin.Tuple.tupleExact _) (wpAny_newObj_type (wpAny_pure (wpAny_pure ⟨_,rfl,wpAny_pure h⟩)) htake))
    | exact wpAny_bind (wpAny_bind (m:=Builtin.Tuple.tupleExact _) (wpAny_newObj_type (wpAny_pure ⟨_,rfl,wpAny_pure h⟩) htake))
end
end HT
namespace L2
open PySem PySem.Spec PyProof.Rows
abbrev TO:=St -> Hp -> (Option Int -> Hp -> Prop) -> Prop
def PO (X : Cx) (e : Option Expr) (t : TO) : Prop:=
  ∀ (pins : List (Addr × Obj)) (s : Shared) (σ : St) (H : Hp) (Q : Option Int -> Hp -> Prop),Inv X pins σ H s -> t σ H Q ->
    wpAny (model X.prog X.w) X.A (evalPart e X.env) (fun u s'=>∃ o H',Inv X pins σ H' s' /\ IsPart u o /\ Q o H') X.xe s
def tNoPart : TO:=fun _ H Q=>Q none H
def tPart (t : TE) : TO:=fun σ H Q=>t σ H fun x H1=>∃ i,x = .int i /\ Q (some i) H1
theorem intsAre_of {ns : List Int} : ∀ {us : List Value},Vals (ns.map V.int) us -> IntsAre us ns:=by
  induction ns with
  | nil=>intro us r; rw [List.map_nil] at r; cases r; exact .nil
  | cons n ns ih=>
    intro us r
    rw [List.map_cons] at r
    cases r with
    | cons r1 r2=>
      obtain ⟨t,e⟩:=r1
      subst e
      exact .cons n t (ih r2)
section
variable {X : Cx} {e : Expr} {te : TE} {lo hi : Option Expr} {tl th : TO} {pos p2 : Pos}
theorem po_none : PO X none tNoPart:=by
  intro pins s σ H Q I h
  rw [evalPart_none]
  exact wpAny_pure ⟨none,H,I,.none,h⟩
theorem po_some (h : PE X e te) : PO X (some e) (tPart te):=by
  intro pins s σ H Q I hw
  rw [evalPart_some]
  refine thn (h pins s σ H _ I hw) fun u s1 ⟨x,H1,I1,r1,q1⟩=>?_
  obtain ⟨i,rfl,q⟩:=q1
  obtain ⟨t,rfl⟩:=r1
  exact ⟨some i,H1,I1,.int i t,q⟩
def SlR (X : Cx) (r : V -> Option Int -> Option Int -> Hp -> VK -> Prop) : Prop:=
  ∀ (pins : List (Addr × Obj)) (s : Shared) (σ : St) (H : Hp) (x : V) (v vl vu : Value) (lo hi : Option Int) (sl : Addr) (Q : VK),Inv X pins σ H s -> RelV x v -> s.heap.IsSliceOf sl vl vu .none -> IsPart vl lo -> IsPart vu hi -> r x lo hi H Q ->
    ∃ T id,typeLookup (.type T) "__getitem__" = pure (some (.builtin id)) /\ s.TypeIs v T /\ wpAny (model X.prog X.w) X.A (getItem v (.ref sl)) (EP X pins σ Q) X.xe s
theorem SlR.or {r r' : V -> Option Int -> Option Int -> Hp -> VK -> Prop} (h : SlR X r) (h' : SlR X r') : SlR X (fun x lo hi H Q=>r x lo hi H Q \/ r' x lo hi H Q):=by
  intro pins s σ H x v vl vu lo hi sl Q I rx hs pl pu q
  rcases q with q | q
  · exact h pins s σ H x v vl vu lo hi sl Q I rx hs pl pu q
  · exact h' pins s σ H x v vl vu lo hi sl Q I rx hs pl pu q
def tSl (r : V -> Option Int -> Option Int -> Hp -> VK -> Prop) (te : TE) (tl th : TO) : TE:=fun σ H Q=>te σ H fun x H1=>tl σ H1 fun l H2=>th σ H2 fun u H3=>r x l u H3 Q
theorem pe_slice {r : V -> Option Int -> Option Int -> Hp -> VK -> Prop} (hr : SlR X r) (he : PE X e te) (hl : PO X lo tl) (hu : PO X hi th) : PE X (.Subscript e (.Slice lo hi none p2) pos) (tSl r te tl th):=by
  intro pins s σ H Q I h
  refine Subscript_ (thn (he pins s σ H _ I h) fun v s1 ⟨x,H1,I1,r1,q1⟩=>?_)
  refine wpAny_Slice (thn (hl pins s1 σ H1 _ I1 q1) fun vl s2 ⟨l,H2,I2,pl,q2⟩=>thn (hu pins s2 σ H2 _ I2 q2) fun vu s3 ⟨u,H3,I3,pu,q3⟩=>?_)
  rw [evalPart_none]
  refine wpAny_pure ?_
  have I4 : Inv X pins σ H3 { s3 with heap:=s3.heap.push { cls:=.type "slice",data:=.fields #[vl,vu,.none] } }:=I3.kept (t':=s3.toks) fun b ob q=>Heap.get?_push_of_some _ q
  obtain ⟨T,id,hT,ht,hg⟩:=hr pins { s3 with heap:=s3.heap.push { cls:=.type "slice",data:=.fields #[vl,vu,.none] } } σ H3 x v vl vu l u s3.heap.objs.size Q I4 r1 (Heap.IsSliceOf.new ..) pl pu q3
  show wpAny (model X.prog X.w) X.A (subscriptTail e (.Slice lo hi none p2) v (.ref s3.heap.objs.size)) (EP X pins σ Q) X.xe { s3 with heap:=s3.heap.push { cls:=.type "slice",data:=.fields #[vl,vu,.none] } }
  exact tail_any (ops:=[.ref s3.heap.objs.size,v]) ht hT hg (by with_unfolding_all rfl)
def cutV (xs : List V) (lo hi : Option Int) : List V:=(xs.drop (HT.sIx xs.length 0 lo)).take (HT.sIx xs.length xs.length hi - HT.sIx xs.length 0 lo)
theorem cutV_length (xs : List V) (lo hi : Option Int) : (cutV xs lo hi).length <= xs.length:=by
  unfold cutV
  rw [List.length_take,List.length_drop]
  omega
def rSlT (K : PySem.W.Frag) : V -> Option Int -> Option Int -> Hp -> VK -> Prop:=fun x lo hi H Q=>∃ a xs,x = .ref a /\ SqT K H a xs /\
  ¬ (HT.sIx xs.length 0 lo = 0 /\ HT.sIx xs.length xs.length hi = xs.length) /\ ∀ p,H p = none -> Q (.ref p) (upd H p (.tup (cutV xs lo hi)))
theorem sl_tup : SlR X (rSlT X.K):=by
  intro pins s σ H x v vl vu lo hi sl Q I rx hs pl pu h
  obtain ⟨a,xs,rfl,hx,hw,q⟩:=h
  cases rx
  obtain ⟨its,r,ht,hz⟩:=I.tuple hx
  have hlen : its.toArray.size = xs.length:=by rw [List.size_toArray]; exact r.length.symm
  refine ⟨"tuple",_,PyProof.Rows.slot_tuple_getitem.lookup,ht.typeIs,?_⟩
  refine HT.getItem_tuple_cut ht hs pl pu (by rw [hlen]; exact hw) ?_ (by rw [hlen]; exact hz)
  rw [hlen]
  refine ⟨.ref s.heap.objs.size,_,I.laid (t':=s.toks) (o:=.tup (cutV xs lo hi)) (fun b ob q=>Heap.get?_push_of_some _ q) (Nat.le_refl _) ?_,rfl,q _ (I.hok.fresh (Nat.le_refl _))⟩
  exact ⟨Nat.le_trans (cutV_length xs lo hi) hz,_,(r.drop (HT.sIx xs.length 0 lo)).take (HT.sIx xs.length xs.length hi - HT.sIx xs.length 0 lo),IsTup.new _ _⟩
def rLtT (K : PySem.W.Frag) : R2:=fun x y H Q=>∃ a b ns ms,x = .ref a /\ y = .ref b /\ SqT K H a (ns.map V.int) /\ SqT K H b (ms.map V.int) /\ Q (.bl (HT.lexLt ns ms)) H
theorem op_ltT (hu : X.A.units < cLine) : OpR X (compareOp .Lt) (rLtT X.K):=by
  intro pins s σ H x y v u Q I rx ry h
  obtain ⟨a,b,ns,ms,rfl,rfl,ha,hb,q⟩:=h
  cases rx
  cases ry
  obtain ⟨its,r1,p1,_⟩:=I.tuple ha
  obtain ⟨its2,r2,p2,_⟩:=I.tuple hb
  have i1 : IntsAre its.toArray.toList ns:=intsAre_of r1
  have i2 : IntsAre its2.toArray.toList ms:=intsAre_of r2
  exact HT.lt_tupInts p1 p2 i1 i2 hu ⟨.bl (HT.lexLt ns ms),H,I,rfl,q⟩
def rCatT (K : PySem.W.Frag) : R2:=fun x y H Q=>∃ a b xs ys,x = .ref a /\ y = .ref b /\ SqT K H a xs /\ SqT K H b ys /\ xs ≠ [] /\ xs.length + ys.length <= sizeLine /\
  (ys = [] -> Q (.ref a) H) /\ (ys ≠ [] -> ∀ p,H p = none -> Q (.ref p) (upd H p (.tup (xs ++ ys))))
theorem Vals.nil_iff {xs : List V} {us : List Value} (r : Vals xs us) : us = [] <-> xs = []:=by
  cases r with
  | nil=>simp
  | cons _ _=>simp
theorem op_catT : OpR X (binaryOp .Add) (rCatT X.K):=by
  intro pins s σ H x y v u Q I rx ry h
  obtain ⟨a,b,xs,ys,rfl,rfl,ha,hb,hx,hz,q1,q2⟩:=h
  cases rx
  cases ry
  obtain ⟨its,r1,p1,_⟩:=I.tuple ha
  obtain ⟨its2,r2,p2,_⟩:=I.tuple hb
  refine HT.cat_tup p1 p2 (fun z=>hx (r1.nil_iff.mp z)) (fun z=>⟨.ref a,H,I,rfl,q1 (r2.nil_iff.mp z)⟩) (fun z=>?_) (by rw [<- r1.length,<- r2.length]; exact hz)
  refine ⟨.ref s.heap.objs.size,_,I.laid (t':=s.toks) (o:=.tup (xs ++ ys)) (fun b ob q=>Heap.get?_push_of_some _ q) (Nat.le_refl _) ?_,rfl,q2 (fun w=>z (r2.nil_iff.mpr w)) _ (I.hok.fresh (Nat.le_refl _))⟩
  exact ⟨by rw [List.length_append]; exact hz,_,r1.append r2,IsTup.new _ _⟩
end
end L2
namespace L2
open PySem PySem.Spec PyProof.Rows
def ixN (n : Nat) (i : Int) : Option Nat:=if 0 <= i then (if i < n then some i.toNat else none) else if -(n : Int) <= i then some (i + n).toNat else none
def atI {α : Type} (xs : List α) (i : Int) : Option α:=(ixN xs.length i).bind fun j=>xs[j]?
theorem ixN_seq {n : Nat} {i : Int} {j : Nat} (h : ixN n i = some j) : seqIndex? i n = some j /\ j < n /\ -(n : Int) <= i /\ i < n:=by
  unfold ixN at h
  by_cases h0 : 0 <= i
  · rw [if_pos h0] at h
    by_cases h1 : i < n
    · rw [if_pos h1] at h
      have e : i.toNat = j:=Option.some.inj h
      exact ⟨by rw [seqIndex_of h0 h1,e],by omega,by omega,h1⟩
    · rw [if_neg h1] at h; cases h
  · rw [if_neg h0] at h
    by_cases h1 : -(n : Int) <= i
    · rw [if_pos h1] at h
      have e : (i + n).toNat = j:=Option.some.inj h
      exact ⟨by rw [seqIndex_neg (by omega) h1,e],by omega,h1,by omega⟩
    · rw [if_neg h1] at h; cases h
theorem atI_get {α : Type} {xs : List α} {i : Int} {v : α} (h : atI xs i = some v) : ∃ j,seqIndex? i xs.length = some j /\ xs[j]? = some v /\ j < xs.length /\ -(xs.length : Int) <= i /\ i < xs.length:=by
  unfold atI at h
  cases e : ixN xs.length i with
  | none=>rw [e] at h; cases h
  | some j=>
    rw [e] at h
    obtain ⟨h1,h2,h3,h4⟩:=ixN_seq e
    exact ⟨j,h1,h,h2,h3,h4⟩
def PlainIx (b : Expr) : Prop:=∀ o i,subscripted b false o i = operate [o,i] (getItem o i)
def IxR (X : Cx) (r : R2) : Prop:=
  ∀ (value slice : Expr) (pins : List (Addr × Obj)) (s : Shared) (σ : St) (H : Hp) (x y : V) (v u : Value) (Q : VK),Inv X pins σ H s -> RelV x v -> RelV y u -> r x y H Q ->
    subscripted slice false v u = operate [v,u] (getItem v u) -> wpAny (model X.prog X.w) X.A (subscriptTail value slice v u) (EP X pins σ Q) X.xe s
def MtR (X : Cx) (id : String) (r : V -> List V -> Hp -> VK -> Prop) : Prop:=
  ∀ (pins : List (Addr × Obj)) (s : Shared) (σ : St) (H : Hp) (x : V) (xs : List V) (v : Value) (us : List Value) (Q : VK),Inv X pins σ H s -> RelV x v -> Vals xs us -> r x xs H Q ->
    wpAny (model X.prog X.w) X.A (call (.builtin id) (v :: us)) (EP X pins σ Q) X.xe s
section
variable {X : Cx} {a b : Expr} {ta tb : TE} {pos : Pos}
theorem IxR.or {r r' : R2} (h : IxR X r) (h' : IxR X r') : IxR X (fun x y H Q=>r x y H Q \/ r' x y H Q):=by
  intro value slice pins s σ H x y v u Q I rx ry q hs
  rcases q with q | q
  · exact h value slice pins s σ H x y v u Q I rx ry q hs
  · exact h' value slice pins s σ H x y v u Q I rx ry q hs
theorem pe_ix {r : R2} (hr : IxR X r) (ha : PE X a ta) (hb : PE X b tb) (hs : PlainIx b) : PE X (.Subscript a b pos) (tOp r ta tb):=by
  intro pins s σ H Q I h
  exact Subscript_ (binT ha hb I h fun v u s2 x y H2 I2 rx ry q=>hr a b pins s2 σ H2 x y v u Q I2 rx ry q (hs _ _))
def rIxL (K : PySem.W.Frag) : R2:=fun x y H Q=>∃ p xs i v,x = .ref p /\ y = .int i /\ SqL K H p xs /\ atI xs i = some v /\ Q v H
def rIxT (K : PySem.W.Frag) : R2:=fun x y H Q=>∃ p xs i v,x = .ref p /\ y = .int i /\ SqT K H p xs /\ atI xs i = some v /\ Q v H
def rIxS : R2:=fun x y H Q=>∃ z i c,x = .str z /\ y = .int i /\ z.length <= sizeLine /\ atI z.cps.toList i = some c /\ Q (.str ⟨#[c]⟩) H
theorem ix_list : IxR X (rIxL X.K):=by
  intro value slice pins s σ H x y v u Q I rx ry h hs
  obtain ⟨p,xs,i,z,rfl,rfl,hq,he,q⟩:=h
  cases rx
  obtain ⟨t,rfl⟩:=ry
  obtain ⟨its,r,pl,hz⟩:=I.list hq
  obtain ⟨j,h1,h2,h3,h4,h5⟩:=atI_get he
  obtain ⟨w,ew,rw'⟩:=r.get h2
  have hl:=r.length
  have hn:=line63
  have fin : EP X pins σ Q w s:=⟨z,H,I,rw',q⟩
  by_cases h0 : 0 <= i
  · have hj : i.toNat = j:=by
      rw [seqIndex_of h0 h5] at h1
      exact Option.some.inj h1
    exact item_listR pl.isList h0 (by omega) (by rw [hj]; simpa using ew) fin hs
  · have hj : (i + (its.toArray.size : Int)).toNat = j:=by
      rw [seqIndex_neg (by omega) h4] at h1
      rw [List.size_toArray,<- hl]
      exact Option.some.inj h1
    exact subscriptTail_builtinR (x:=w) pl.isList.typeIs slot_list_getitem.lookup
      (wpAny_getItem_list_neg (Q:=fun r s'=>r = w /\ EP X pins σ Q r s') pl.isList (by omega) (by rw [List.size_toArray] <;> omega) (by omega) (by rw [hj]; simpa using ew) ⟨rfl,fin⟩) hs
theorem ix_tup : IxR X (rIxT X.K):=by
  intro value slice pins s σ H x y v u Q I rx ry h hs
  obtain ⟨p,xs,i,z,rfl,rfl,hq,he,q⟩:=h
  cases rx
  obtain ⟨t,rfl⟩:=ry
  obtain ⟨its,r,pl,hz⟩:=I.tuple hq
  obtain ⟨j,h1,h2,h3,h4,h5⟩:=atI_get he
  obtain ⟨w,ew,rw'⟩:=r.get h2
  have hl:=r.length
  have hn:=line63
  have fin : EP X pins σ Q w s:=⟨z,H,I,rw',q⟩
  exact subscriptTail_builtinR (x:=w) pl.typeIs slot_tuple_getitem.lookup
    (getItem_tuple (j:=j) (Q:=fun r s'=>r = w /\ EP X pins σ Q r s') pl (by omega) (by omega) (by rw [List.size_toArray,<- hl]; exact h1) (by simpa using ew) ⟨rfl,fin⟩) hs
theorem ix_str : IxR X rIxS:=by
  intro value slice pins s σ H x y v u Q I rx ry h hs
  obtain ⟨z,i,c,rfl,rfl,hz,he,q⟩:=h
  obtain ⟨t,rfl⟩:=rx
  obtain ⟨t',rfl⟩:=ry
  obtain ⟨j,h1,h2,h3,h4,h5⟩:=atI_get he
  have hl : z.cps.toList.length = z.length:=by simp [Str.length]
  rw [hl] at h1 h4 h5
  have hn:=line63
  exact tail_any (typeIs_str s z t) slot_str_getitem.lookup (getItem_str (c:=c) (by
    have e1 : decide (i < -(2 ^ 63 : Int)) = false:=decide_eq_false (by omega)
    have e2 : decide (i >= 2 ^ 63) = false:=decide_eq_false (by omega)
    rw [e1,e2,Bool.or_false]) (by rw [h1]; simpa using h2) ⟨.str ⟨#[c]⟩,H,I.tok _,⟨_,rfl⟩,q⟩) hs
def rIx (K : PySem.W.Frag) : R2:=fun x y H Q=>rIxL K x y H Q \/ rIxT K x y H Q \/ rIxS x y H Q
theorem ix_seq : IxR X (rIx X.K):=ix_list.or (ix_tup.or ix_str)
theorem mapSeq_set (its : List Value) (n j : Nat) (u : Value) : Obj.mapSeq (·.setIfInBounds j u) { cls:=.type "list",data:=.seq its.toArray n } = { cls:=.type "list",data:=.seq (its.set j u).toArray n }:=by
  simp [Obj.mapSeq]
theorem Inv.lst {pins : List (Addr × Obj)} {σ : St} {H : Hp} {s : Shared} {p : Addr} {xs : List V} (I : Inv X pins σ H s) (h : H p = some (.lst xs)) :
    ∃ (its : List Value) (n : Nat),Vals xs its /\ s.heap.get? p = some { cls:=.type "list",data:=.seq its.toArray n } /\ xs.length <= sizeLine:=by
  obtain ⟨z,its,n,r,e⟩:=I.hok p _ h
  exact ⟨its,n,r,e,z⟩
theorem Inv.lstUpd {pins : List (Addr × Obj)} {σ : St} {H : Hp} {s : Shared} {p : Addr} {xs ys : List V} {its its' : List Value} {n n' : Nat} {f : Obj -> Obj} (I : Inv X pins σ H s) (h : H p = some (.lst xs))
    (ho : s.heap.get? p = some { cls:=.type "list",data:=.seq its.toArray n }) (hf : f { cls:=.type "list",data:=.seq its.toArray n } = { cls:=.type "list",data:=.seq its'.toArray n' }) (r : Vals ys its') (hz : ys.length <= sizeLine) (t : Nat) :
    Inv X pins σ (upd H p (.lst ys)) { s with heap:=s.heap.update p f,toks:=t }:=by
  have e : (s.heap.update p f).get? p = some { cls:=.type "list",data:=.seq its'.toArray n' }:=by
    rw [Heap.get?_update_self f ho (by rw [hf] <;> rfl),hf]
  refine I.write (x:=p) (e:=p) (by rw [h]; trivial) (.inl rfl) (fun b u hb q=>(Heap.get?_update_other _ _ (Ne.symm hb)).trans q) ⟨_,e⟩ ?_
  exact ⟨hz,its',n',r,e⟩
def rSetL : V -> V -> V -> Hp -> (Hp -> Prop) -> Prop:=fun o i v H Q=>∃ p xs k j,o = .ref p /\ i = .int k /\ H p = some (.lst xs) /\ ixN xs.length k = some j /\ Q (upd H p (.lst (xs.set j v)))
theorem set_list : PSet X rSetL:=by
  intro pins s σ H o i v ov iv u Q I ro ri rv h
  obtain ⟨p,xs,k,j,rfl,rfl,hp,hj,q⟩:=h
  cases ro
  obtain ⟨t,rfl⟩:=ri
  obtain ⟨its,n,r,ho,hz⟩:=I.lst hp
  obtain ⟨h1,h2,h3,h4⟩:=ixN_seq hj
  have hl:=r.length
  have hn:=line63
  have I' : Inv X pins σ (upd H p (.lst (xs.set j v))) { s with heap:=s.heap.update p (Obj.mapSeq (·.setIfInBounds j u)) }:=
    I.lstUpd hp ho (mapSeq_set its n j u) (r.set rv j) (by rw [List.length_set]; exact hz) s.toks
  by_cases h0 : 0 <= k
  · have hk : k.toNat = j:=by
      rw [seqIndex_of h0 h4] at h1
      exact Option.some.inj h1
    exact PySem.W.ki_setAt ho h0 (by omega) (by rw [List.size_toArray,<- hl]; exact h4) (by rw [hk]; exact ⟨_,I',q⟩)
  · have hk : (k + (its.toArray.size : Int)).toNat = j:=by
      rw [seqIndex_neg (by omega) h3] at h1
      rw [List.size_toArray,<- hl]
      exact Option.some.inj h1
    exact PySem.W.ki_setBack ho (by omega) (by rw [List.size_toArray,<- hl]; exact h3) (by omega) (by rw [hk]; exact ⟨_,I',q⟩)
theorem slice_bounds (lo hi : Option Int) (n : Nat) : (sliceBounds lo hi none n).1 = ((HT.sIx n 0 lo : Nat) : Int) /\ (sliceBounds lo hi none n).2.1 = ((HT.sIx n n hi : Nat) : Int) /\ (sliceBounds lo hi none n).2.2 = 1:=by
  refine ⟨?_,?_,rfl⟩
  · cases lo with
    | none=>simp [sliceBounds,HT.sIx]
    | some i=>
      simp only [sliceBounds,HT.sIx,Option.getD_none,show (1 : Int) > 0 by decide,if_true]
      by_cases h : i < 0
      · simp only [h,if_true] <;> omega
      · simp only [h,if_false] <;> omega
  · cases hi with
    | none=>simp [sliceBounds,HT.sIx]
    | some i=>
      simp only [sliceBounds,HT.sIx,Option.getD_none,show (1 : Int) > 0 by decide,if_true]
      by_cases h : i < 0
      · simp only [h,if_true] <;> omega
      · simp only [h,if_false] <;> omega
theorem slicePick_cut (its : List Value) (lo hi : Option Int) : slicePick its.toArray lo hi none = ((its.drop (HT.sIx its.length 0 lo)).take (HT.sIx its.length its.length hi - HT.sIx its.length 0 lo)).toArray:=by
  obtain ⟨h1,h2,h3⟩:=slice_bounds lo hi its.toArray.size
  unfold slicePick
  rw [h1,h2,h3]
  simp only [sliceRange_one,pick_run,List.size_toArray] <;> rfl
def rSlL (K : PySem.W.Frag) : V -> Option Int -> Option Int -> Hp -> VK -> Prop:=fun x lo hi H Q=>∃ a xs,x = .ref a /\ SqL K H a xs /\ ∀ p,H p = none -> Q (.ref p) (upd H p (.lst (cutV xs lo hi)))
theorem sl_list : SlR X (rSlL X.K):=by
  intro pins s σ H x v vl vu lo hi sl Q I rx hs pl pu h
  obtain ⟨a,xs,rfl,hx,q⟩:=h
  cases rx
  obtain ⟨its,r,ht,hz⟩:=I.list hx
  have hlen:=r.length
  refine ⟨"list",_,slot_list_getitem.lookup,ht.isList.typeIs,?_⟩
  refine wpAny_getItem_list_slice ht.isList hs pl pu .none (by simp) ?_ (by rw [List.size_toArray] <;> omega)
  rw [slicePick_cut,<- hlen]
  refine ⟨.ref s.heap.objs.size,_,I.laid (t':=s.toks) (o:=.lst (cutV xs lo hi)) (fun b ob q=>Heap.get?_push_of_some _ q) (Nat.le_refl _) ?_,rfl,q _ (I.hok.fresh (Nat.le_refl _))⟩
  exact ⟨Nat.le_trans (cutV_length xs lo hi) hz,_,0,(r.drop (HT.sIx xs.length 0 lo)).take (HT.sIx xs.length xs.length hi - HT.sIx xs.length 0 lo),Heap.get?_push_size _ rfl⟩
theorem call_len_seq : CallR X (.builtin "len") (fun xs H Q=>∃ p ys,xs = [.ref p] /\ (SqL X.K H p ys \/ SqT X.K H p ys) /\ Q (.int ys.length) H):=by
  intro pins s σ H xs us Q I r h
  obtain ⟨p,ys,rfl,hq,q⟩:=h
  obtain ⟨u,rfl,rx⟩:=vals1 r
  cases rx
  have hn:=line63
  rcases hq with hq | hq
  · obtain ⟨its,r',pl,hz⟩:=I.list hq
    have hlen:=r'.length
    exact Calls.call_len_list pl.isList (by simp only [List.size_toArray] <;> omega) ⟨.int ys.length,H,I.tok _,⟨s.toks + 1,by rw [List.size_toArray,hlen]⟩,q⟩
  · obtain ⟨its,r',pl,hz⟩:=I.tuple hq
    have hlen:=r'.length
    exact len_tuple pl (by simp only [List.size_toArray] <;> omega) ⟨.int ys.length,H,I.tok _,⟨s.toks + 1,by rw [List.size_toArray,hlen]⟩,q⟩
theorem call_len_str : CallR X (.builtin "len") (fun xs H Q=>∃ z,xs = [.str z] /\ z.length <= sizeLine /\ Q (.int z.length) H):=by
  intro pins s σ H xs us Q I r h
  obtain ⟨z,rfl,hz,q⟩:=h
  obtain ⟨u,rfl,t,rfl⟩:=vals1 r
  have hn:=line63
  exact len_str (by omega) ⟨.int z.length,H,I.tok _,⟨_,rfl⟩,q⟩
theorem call_list_of : CallR X (.type "list") (fun xs H Q=>∃ p ys,xs = [.ref p] /\ (SqL X.K H p ys \/ SqT X.K H p ys) /\ ∀ l,H l = none -> Q (.ref l) (upd H l (.lst ys))):=by
  intro pins s σ H xs us Q I r h
  obtain ⟨p,ys,rfl,hq,q⟩:=h
  obtain ⟨u,rfl,rx⟩:=vals1 r
  cases rx
  have fin : ∀ (its : List Value),Vals ys its -> ys.length <= sizeLine -> ∀ (h' : Heap) (c' : Nat),(∀ b o',s.heap.get? b = some o' -> h'.get? b = some o') ->
      h'.get? s.heap.objs.size = some { cls:=.type "list",dict:=none,data:=.seq its.toArray c',slots:=#[] } -> EP X pins σ Q (.ref s.heap.objs.size) { s with heap:=h' }:=fun its r' hz h' c' kp e=>
    ⟨.ref s.heap.objs.size,_,I.laid (t':=s.toks) kp (Nat.le_refl _) (show ObjOk X.prog X.w _ h' _ (.lst ys) from ⟨hz,its,c',r',e⟩),rfl,q _ (I.hok.fresh (Nat.le_refl _))⟩
  rcases hq with hq | hq
  · obtain ⟨its,r',pl,hz⟩:=I.list hq
    have hlen:=r'.length
    obtain ⟨o,ho,hc,n,hd⟩:=pl.isList
    exact call_list_seq p (.inl rfl) ho hc hd (fun h' c' kp e=>fin its r' hz h' c' kp e) (by simp only [List.size_toArray] <;> omega)
  · obtain ⟨its,r',pl,hz⟩:=I.tuple hq
    have hlen:=r'.length
    obtain ⟨o,ho,hc,n,hd⟩:=pl
    exact call_list_seq p (.inr rfl) ho hc hd (fun h' c' kp e=>fin its r' hz h' c' kp e) (by simp only [List.size_toArray] <;> omega)
theorem call_tuple_of : CallR X (.type "tuple") (fun xs H Q=>∃ p ys,xs = [.ref p] /\ ((SqL X.K H p ys /\ ∀ l,H l = none -> Q (.ref l) (upd H l (.tup ys))) \/ (SqT X.K H p ys /\ Q (.ref p) H))):=by
  intro pins s σ H xs us Q I r h
  obtain ⟨p,ys,rfl,h⟩:=h
  obtain ⟨u,rfl,rx⟩:=vals1 r
  cases rx
  rcases h with ⟨hq,q⟩ | ⟨hq,q⟩
  · obtain ⟨its,r',pl,hz⟩:=I.list hq
    have hlen:=r'.length
    refine call_tuple_list pl.isList (fun h' kp=>?_) (by simp only [List.size_toArray] <;> omega)
    have I1 : Inv X pins σ H { s with heap:=h' }:=I.kept (t':=s.toks) kp
    have I2 : Inv X pins σ (upd H h'.objs.size (.tup ys)) { s with heap:=h'.push { cls:=.type "tuple",data:=.seq its.toArray } }:=
      I1.laid (t':=s.toks) (fun b o e=>Heap.get?_push_of_some _ e) (Nat.le_refl _) (show ObjOk X.prog X.w _ _ _ (.tup ys) from ⟨hz,its,r',IsTup.new _ _⟩)
    exact ⟨.ref h'.objs.size,_,I2,rfl,q _ (I1.hok.fresh (Nat.le_refl _))⟩
  · obtain ⟨its,r',pl,hz⟩:=I.tuple hq
    exact call_tuple_same pl ⟨.ref p,H,I,rfl,q⟩
def tyV (K : PySem.W.Frag) (T : String) (x : V) (H : Hp) : Prop:=match x with
  | .str _=>T = "str"
  | .int _=>T = "int"
  | .ref p=>(T = "list" /\ ∃ xs,SqL K H p xs) \/ (T = "tuple" /\ ∃ o,K.lookup p = some o /\ o.cls = .type "tuple" /\ o.dict = none) \/
      (T = "dict" /\ ((∃ kvs,H p = some (.dK kvs)) \/ ∃ kvs,H p = some (.dT kvs))) \/ (T = "set" /\ ∃ S n,H p = some (.set S n))
  | _=>False
theorem tyV_is {pins : List (Addr × Obj)} {σ : St} {H : Hp} {s : Shared} {T : String} {x : V} {v : Value} (I : Inv X pins σ H s) (r : RelV x v) (ty : tyV X.K T x H) :
    s.TypeIs v T /\ ∀ a,v = .ref a -> ∃ ob,s.heap.get? a = some ob /\ ob.dict = none:=by
  cases x with
  | str z=>
    obtain ⟨t,rfl⟩:=r
    cases (show T = "str" from ty)
    exact ⟨typeIs_str s z t,fun _ e=>nomatch e⟩
  | int i=>
    obtain ⟨t,rfl⟩:=r
    cases (show T = "int" from ty)
    exact ⟨typeIs_int s i t,fun _ e=>nomatch e⟩
  | ref p=>
    cases r
    rcases ty with ⟨rfl,xs,hq⟩ | ⟨rfl,o,hk,hc,hd⟩ | ⟨rfl,hk⟩ | ⟨rfl,S,n,hk⟩
    · obtain ⟨its,_,pl,_⟩:=I.list hq
      refine ⟨pl.isList.typeIs,fun a e=>?_⟩
      cases e
      obtain ⟨o,n,e,c,hd,_⟩:=pl
      exact ⟨o,e,hd⟩
    · refine ⟨⟨o,I.kIn p o hk,hc⟩,fun a e=>?_⟩
      cases e
      exact ⟨o,I.kIn _ o hk,hd⟩
    · have z : ∃ o,s.heap.get? p = some o /\ o.ExactDict:=by
        rcases hk with ⟨kvs,hk⟩ | ⟨kvs,hk⟩
        · obtain ⟨_,_,_,_,o,_,_,e,ex,_⟩:=I.hok p _ hk
          exact ⟨o,e,ex⟩
        · obtain ⟨_,_,_,_,o,_,_,e,ex,_⟩:=I.hok p _ hk
          exact ⟨o,e,ex⟩
      obtain ⟨o,e,ex⟩:=z
      refine ⟨⟨o,e,ex.1⟩,fun a e2=>?_⟩
      cases e2
      exact ⟨o,e,ex.2.1⟩
    · obtain ⟨o,_,_,_,e,ex,_⟩:=I.hok p _ hk
      refine ⟨⟨o,e,ex.1⟩,fun a e2=>?_⟩
      cases e2
      exact ⟨o,e,ex.2.1⟩
  | _=>exact False.elim ty
def tBM (K : PySem.W.Frag) (T : String) (r : V -> List V -> Hp -> VK -> Prop) (to : TE) (t : TA) : TE:=fun σ H Q=>to σ H fun x H1=>tyV K T x H1 /\ t σ H1 fun xs H2=>r x xs H2 Q
variable {o e : Expr} {es : List Expr} {to : TE} {t : TA} {name : Str} {apos cpos : Pos} {T id : String} {r : V -> List V -> Hp -> VK -> Prop}
theorem pe_bm (pa : PlainAttrs T) (slot : Slot T name id) (hty : typeOf (.builtin id) = pure (.type "method_descriptor")) (hm : MtR X id r) (ho : PE X o to) (ha : PA X (e :: es) t)
    (hbase : attributeBase o name X.env (eval o X.env) = eval o X.env:=by rfl)
    (hfew : ((backTo cpos (starEach (e :: es) X.env)).all (fun x=>!x.1) && (backToKw cpos (keywordEach [] X.env)).all (fun x=>x.1.isSome)
      && decide ((e :: es).length + ([] : List Keyword).length + (if ([] : List Keyword).isEmpty then 0 else 1) < 30)) = true:=by rfl)
    (hline : (apos.endLine == cpos.line) = true:=by rfl) (hs : starEach (e :: es) X.env = (false,eval e X.env) :: starEach es X.env:=by rfl) (hplain : (backTo cpos (starEach es X.env)).any (·.1) = false:=by rfl) :
    PE X (.Call (.Attribute o name apos) (e :: es) [] cpos) (tBM X.K T r to t):=by
  intro pins s σ H Q I h
  refine wpAny_Call_method_late hbase hfew hline rfl (thn (ho pins s σ H _ I h) fun v s1 ⟨x,H1,I1,r1,ty,q1⟩=>?_)
  obtain ⟨h1,h2⟩:=tyV_is I1 r1 ty
  refine ⟨T,id,pa,slot,hty,h1,h2,?_⟩
  have hA:=ha cpos pins s1 σ H1 _ I1 q1
  rw [hs] at hA ⊢
  refine Calls.callWith_builtin (by show (false || (backTo cpos (starEach es X.env)).any (·.1)) = false; rw [hplain] <;> rfl) (Calls.evalArgs_plain ?_)
  exact thn hA fun us s2 ⟨vs,H2,I2,r2,q2⟩=>hm pins s2 σ H2 x vs v us Q I2 r1 r2 q2
end
end L2
namespace L2
open PySem PySem.Spec PyProof.Rows
def MtM (X : Cx) (id : String) (r : V -> List V -> Hp -> VK -> Prop) : Prop:=
  ∀ (pins : List (Addr × Obj)) (s : Shared) (σ : St) (H : Hp) (x : V) (xs : List V) (v : Value) (us : List Value) (Q : VK),Inv X pins σ H s -> RelV x v -> Vals xs us -> r x xs H Q ->
    wpAny (model X.prog X.w) X.A (call (.builtin id) (v :: us)) (EP X pins σ Q) X.xe s
theorem Vals.one : ∀ {x : V} {us : List Value},Vals [x] us -> ∃ u,us = [u] /\ RelV x u
  | _,_,.cons r .nil=>⟨_,rfl,r⟩
theorem Vals.reverse {xs : List V} {us : List Value} (h : Vals xs us) : Vals xs.reverse us.reverse:=by
  induction h with
  | nil=>exact .nil
  | cons r t ih=>rw [List.reverse_cons,List.reverse_cons]; exact Vals.append ih (.cons r .nil)
theorem Vals.rep {xs : List V} {us : List Value} (h : Vals xs us) : ∀ k : Nat,Vals (List.replicate k xs).flatten (List.replicate k us).flatten
  | 0=>.nil
  | k + 1=>by
    rw [List.replicate_succ,List.replicate_succ,List.flatten_cons,List.flatten_cons]
    exact Vals.append h (Vals.rep h k)
theorem foldl_rep (its : List Value) : ∀ (k : Nat) (acc : List Value),
    List.foldl (fun x1 x2=>x1 ++ x2) acc.toArray (List.replicate k its.toArray) = (acc ++ (List.replicate k its).flatten).toArray
  | 0,acc=>by simp
  | k + 1,acc=>by
    have e : acc.toArray ++ its.toArray = (acc ++ its).toArray:=by simp
    have e2 : (acc ++ its) ++ (List.replicate k its).flatten = acc ++ (List.replicate (k + 1) its).flatten:=by
      rw [List.replicate_succ,List.flatten_cons,List.append_assoc]
    rw [<- e2,<- foldl_rep its k (acc ++ its),<- e,List.replicate_succ,List.foldl_cons]
section
variable {X : Cx} {pins : List (Addr × Obj)} {σ : St} {H : Hp} {s : Shared} {l b : Addr} {xs ys zs : List V}
theorem Inv.lset {its its' : List Value} {n : Nat} {f : Array Value -> Array Value} {t' : Nat} (I : Inv X pins σ H s) (hH : H l = some (.lst xs))
    (e : s.heap.get? l = some { cls:=.type "list",data:=.seq its.toArray n }) (hf : f its.toArray = its'.toArray) (hv : Vals ys its') (hz : ys.length <= sizeLine) :
    Inv X pins σ (upd H l (.lst ys)) { s with heap:=s.heap.update l (Obj.mapSeq f),toks:=t' }:=by
  have q:=PySem.IsL.update e f
  rw [hf] at q
  refine I.write (x:=l) (e:=l) (by rw [hH]; exact trivial) (.inl rfl) (fun b' u hb hu=>(Heap.get?_update_other s.heap (Obj.mapSeq f) (Ne.symm hb)).trans hu) ⟨_,q⟩ ?_
  exact ⟨hz,its',_,hv,q⟩
theorem Inv.lnew {its : List Value} {t' : Nat} (I : Inv X pins σ H s) (hv : Vals ys its) (hz : ys.length <= sizeLine) :
    Inv X pins σ (upd H s.heap.objs.size (.lst ys)) { s with heap:=s.heap.push { cls:=.type "list",data:=.seq its.toArray },toks:=t' }:=
  I.laid (fun _ _ q=>Heap.get?_push_of_some _ q) (Nat.le_refl _) ⟨hz,its,0,hv,Heap.get?_push_size _ rfl⟩
theorem Inv.fresh (I : Inv X pins σ H s) : H s.heap.objs.size = none:=I.hok.fresh (Nat.le_refl _)
theorem Inv.lstM (I : Inv X pins σ H s) (hH : H l = some (.lst xs)) : xs.length <= sizeLine /\ ∃ (its : List Value) (n : Nat),Vals xs its /\ xs.length = its.length /\ s.heap.get? l = some { cls:=.type "list",data:=.seq its.toArray n }:=by
  obtain ⟨z,its,n,r,e⟩:=I.hok l _ hH
  exact ⟨z,its,n,r,r.length,e⟩
theorem notLongL {n : Nat} (h : n <= sizeLine) : Builtin.List.listTooLong n = false:=by
  unfold Builtin.List.listTooLong
  exact decide_eq_false (by omega)
end
section
variable {X : Cx}
def rAppend : V -> List V -> Hp -> VK -> Prop:=fun x vs H Q=>∃ l xs y,x = .ref l /\ vs = [y] /\ H l = some (.lst xs) /\ xs.length < sizeLine /\ Q .non (upd H l (.lst (xs ++ [y])))
theorem mt_append : MtM X "list.append" rAppend:=by
  intro pins s σ H x vs v us Q I rx rv h
  obtain ⟨l,xs,y,rfl,rfl,hH,hz,q⟩:=h
  cases rx
  obtain ⟨u,rfl,ru⟩:=rv.one
  obtain ⟨z,its,n,r,hl,e⟩:=I.lstM hH
  refine call_meets F.slot_list_append ⟨_,e,rfl⟩ F.entry_list_append (F.args_list_append_2 _ _) (PySem.list_append l its.toArray n u (by rw [List.size_toArray]; omega)) ⟨e,?_⟩
  refine ⟨.non,_,I.lset (its':=its ++ [u]) hH e (by simp) (r.append (.cons ru .nil)) ?_,rfl,q⟩
  rw [List.length_append,List.length_singleton]
  omega
def rExtend : V -> List V -> Hp -> VK -> Prop:=fun x vs H Q=>∃ l b xs zs,x = .ref l /\ vs = [.ref b] /\ H l = some (.lst xs) /\ H b = some (.lst zs) /\ xs.length + zs.length <= sizeLine /\ Q .non (upd H l (.lst (xs ++ zs)))
theorem mt_extend : MtM X "list.extend" rExtend:=by
  intro pins s σ H x vs v us Q I rx rv h
  obtain ⟨l,b,xs,zs,rfl,rfl,hH,hB,hz,q⟩:=h
  cases rx
  obtain ⟨u,rfl,ru⟩:=rv.one
  cases ru
  obtain ⟨z,its,n,r,hl,e⟩:=I.lstM hH
  obtain ⟨z2,its2,n2,r2,hl2,e2⟩:=I.lstM hB
  have hsz : its.toArray.size + its2.toArray.size <= sizeLine:=by rw [List.size_toArray,List.size_toArray]; omega
  have hlong : ¬ (!its.toArray.isEmpty && Builtin.List.listTooLong (its.toArray.size + its2.toArray.size)) = true:=by
    rw [notLongL hsz,Bool.and_false]
    exact Bool.false_ne_true
  refine call_meets F.slot_list_extend ⟨_,e,rfl⟩ F.entry_list_extend (F.args_list_extend_2 _ _)
    (AutoSeq1.list_extend_list_list_0 l its.toArray n b its2.toArray n2 hlong (by rw [List.size_toArray]; omega) (by omega)) ⟨e,e2,?_⟩
  refine ⟨.non,_,I.lset (its':=its ++ its2) hH e (by simp) (r.append r2) ?_,rfl,q⟩
  rw [List.length_append]
  omega
def rCat : R2:=fun x y H Q=>∃ l b xs zs,x = .ref l /\ y = .ref b /\ H l = some (.lst xs) /\ H b = some (.lst zs) /\ xs.length + zs.length <= sizeLine /\ ∀ p,H p = none -> Q (.ref p) (upd H p (.lst (xs ++ zs)))
theorem op_cat : OpR X (binaryOp .Add) rCat:=by
  intro pins s σ H x y v u Q I rx ry h
  obtain ⟨l,b,xs,zs,rfl,rfl,hH,hB,hz,q⟩:=h
  cases rx
  cases ry
  obtain ⟨z,its,n,r,hl,e⟩:=I.lstM hH
  obtain ⟨z2,its2,n2,r2,hl2,e2⟩:=I.lstM hB
  refine PySem.P.add_list e e2 ?_ (by rw [List.size_toArray,List.size_toArray]; omega)
  have ea : its.toArray ++ its2.toArray = (its ++ its2).toArray:=by simp
  rw [ea]
  exact ⟨.ref _,_,I.lnew (t':=s.toks) (r.append r2) (by rw [List.length_append]; omega),rfl,q _ I.fresh⟩
def rRep : R2:=fun x y H Q=>∃ l k xs,x = .ref l /\ y = .int k /\ H l = some (.lst xs) /\ -(2 ^ 63) <= k /\ k < 2 ^ 63 /\ xs.length * k.toNat <= sizeLine /\
  ∀ p,H p = none -> Q (.ref p) (upd H p (.lst (List.replicate k.toNat xs).flatten))
theorem len_rep {α : Type} (xs : List α) (k : Nat) : (List.replicate k xs).flatten.length = k * xs.length:=by
  induction k with
  | zero=>simp
  | succ k ih=>rw [List.replicate_succ,List.flatten_cons,List.length_append,ih,Nat.succ_mul,Nat.add_comm]
theorem op_rep : OpR X (binaryOp .Mult) rRep:=by
  intro pins s σ H x y v u Q I rx ry h
  obtain ⟨l,k,xs,rfl,rfl,hH,h1,h2,hz,q⟩:=h
  cases rx
  obtain ⟨t,rfl⟩:=ry
  obtain ⟨z,its,n,r,hl,e⟩:=I.lstM hH
  have hlen : its.toArray.size * k.toNat <= sizeLine:=by rw [List.size_toArray,<- hl]; exact hz
  have hcap : ¬ its.toArray.size * k.toNat > (2 ^ 63 - 1) / 8:=by
    have : (sizeLine : Nat) <= (2 ^ 63 - 1) / 8:=by decide
    omega
  have hfit : ¬ (!Builtin.List.listFitsIndex k) = true:=by
    rw [fitsIndex_both h1 h2]
    exact Bool.false_ne_true
  have hlong : ¬ Builtin.List.listTooLong (its.toArray.size * k.toNat) = true:=by
    rw [notLongL hlen]
    exact Bool.false_ne_true
  have hnew : List.foldl (fun x1 x2=>x1 ++ x2) #[] (List.replicate (if its.toArray.isEmpty = true then 0 else k.toNat) its.toArray) = (List.replicate k.toNat its).flatten.toArray:=by
    have f0 : ∀ m : Nat,List.foldl (fun x1 x2=>x1 ++ x2) #[] (List.replicate m its.toArray) = (List.replicate m its).flatten.toArray:=fun m=>by
      have:=foldl_rep its m []
      rw [List.nil_append] at this
      exact this
    rw [f0]
    cases its with
    | nil=>simp
    | cons a r'=>rw [if_neg (by simp)]
  refine wpAny_binaryOp_repeat_ref (T := "list") (U := "int") (by decide) ⟨_,e,rfl⟩ (fun s'=>typeIs_int s' k t) noFill_list_mul F.fills_int_mul F.slot_int_rmul repeat_list F.slot_int_index.lookup
    (call_meets F.slot_int_rmul (typeIs_int s k t) F.entry_int_rmul (F.args_int_rmul_2 _ _) (int___rmul___int_list k t l its.toArray n)
      ⟨e,rfl,⟨_,e,rfl⟩,call_meets F.slot_list_mul ⟨_,e,rfl⟩ F.entry_list_mul (F.args_list_mul_2 _ _) (AutoListH.list___mul___list_int_3 l its.toArray n k t hfit hcap hlong) ⟨e,?_⟩⟩)
  rw [hnew]
  exact ⟨.ref _,_,I.lnew (t':=s.toks) (r.rep k.toNat) (by rw [len_rep,Nat.mul_comm]; exact hz),rfl,q _ I.fresh⟩
end
section
variable {prog : Program} {w : World} {A : Around} {E : Value -> Shared -> Prop} {s : Shared}
end
section
variable {X : Cx}
end
end L2
namespace Att
open PySem PySem.W PySem.Calls PyProof.Rows
theorem ints_of_wellAll {P : Params} {h : Heap} : ∀ (ns : List Int) (vs : List Value),WellAll P h vs (ns.map WData.int) -> IntsAre vs ns:=by
  intro ns
  induction ns with
  | nil=>
    intro vs w
    rw [List.map_nil] at w
    cases w
    exact .nil
  | cons n ns ih=>
    intro vs w
    rw [List.map_cons] at w
    cases w with
    | cons a b=>
      cases a
      exact .cons _ _ (ih _ b)
theorem script_of {l : OpenLaw} {n : Nat} (hn : l.most = some n) {P : Params} {h : Heap} {args : List WData} {vals : List Value}
    (hpre : l.row.toRowW.claim.pre args = true) (hwl : WellAll P h vals args) :
    ∃ a vs ns,vals = [Value.ref a] /\ args = [WData.list (ns.map WData.int)] /\ h.get? a = some { cls:=.type "list",data:=.seq vs.toArray } /\ IntsAre vs ns /\ ns.length <= n:=by
  have hsh : WShape.hasAll [] args [.list .int] = true:=(pre_splitW hpre).1
  have hc : l.pre.holds [] { args:=args } = true:=(pre_splitW hpre).2
  obtain ⟨d,r,rfl,h1,h2⟩:=hasAllW_cons hsh
  obtain rfl:=hasAllW_nil h2
  obtain ⟨xs,rfl,h3⟩:=hasW_list h1
  obtain ⟨ns,rfl⟩:=items_int h3
  have hlen : ns.length <= n:=by
    unfold OpenLaw.pre at hc
    have h4 : (WTm.not (.lt (.lit (.int (n : Int))) (.len (.arg 0)))).holds [] { args:=[.list (ns.map .int)] } = true:=by
      have h4:=(holds_andW hc).1
      rw [hn] at h4
      exact h4
    have h5:=condW_of h4 (w_not (w_lt w_lit (w_len_list (w_arg rfl))))
    rw [List.length_map] at h5
    refine Nat.le_of_not_lt fun q=>?_
    have q' : (n : Int) < ((ns.length : Nat) : Int):=by omega
    first
      | (rw [decide_eq_true q'] at h5; exact absurd h5 (by decide))
      | (simp at h5; omega)
  cases hwl with
  | cons w1 w2=>
    cases w2
    cases w1 with
    | list ho hall=>exact ⟨_,_,ns,rfl,rfl,ho,ints_of_wellAll ns _ hall,hlen⟩
theorem post_true (l : OpenLaw) (args : List WData) : l.row.toRowW.claim.post args (.bool true) args = true:=
  postW_of (r:=l.row.toRowW) (X:=(true == true))
    (show WShape.has [] (.bool true) .bool = true by first | rfl | decide | simp [WShape.has,WShape.arms,WShape.armsAll])
    (show (WTm.eq .res (.lit (.bool true))).value [] { args:=args,res:=some (.bool true),after:=args } = some (.bool (true == true)) from w_eq_bool (w_res rfl) w_lit) rfl
theorem attach_call {l : OpenLaw} {n : Nat} {q : Program} {loose : List Str} {XP : (Str -> Option Value) -> Heap -> Prop} {YP : World -> Heap -> Prop} {d : DefRec}
    (hn : l.most = some n) (hdf : d.params.defaults = [])
    (call : ∀ (w : World) (s₀ s₁ : Shared) (mg mb : Str -> Option Value) (fa : Addr) (o : Obj) (pm cd doc : Value) (a : Addr) (vs : List Value) (ns : List Int),
      Ground q loose [] XP w s₀ mg mb s₁.heap -> YP w s₁.heap ->
      s₁.heap.get? fa = some o -> o.data = .func (docDef d.name d.params d.body d.scope pm cd doc) -> s₁.heap.CodeRec cd d.name -> mg d.name = some (.ref fa) ->
      s₁.heap.get? a = some { cls:=.type "list",data:=.seq vs.toArray } -> IntsAre vs ns -> ns.length <= n -> s₁.gens = #[] ->
      codeAny (model l.prog w) callerA (.call (.ref fa) ⟨[.ref a],[]⟩) (fun r s'=>r = .ok (.ret (.bool true)) /\ OldK s₁.heap s'.heap /\ s'.os = s₁.os /\ AllBare s'.gens) s₁) :
    WalkO q loose XP YP l.row.toRowW d [] (fun f vs=>PySem.call f vs):=by
  intro w s₀ s₁ mg mb G Y fa o pm cd doc dV kV ho hd hcd hD hmg hg args vals as hpre hlay hrd hwl hlo
  obtain rfl : dV = .none:=Dflts.none hD hdf
  obtain rfl : kV = .none:=Dflts.noKw hD
  obtain ⟨a,vs,ns,rfl,rfl,hobj,hints,hlen⟩:=script_of hn hpre hwl
  refine enter_call (codeAny_mono (call w s₀ s₁ mg mb fa o pm cd doc a vs ns G Y ho (fd_plain hd) hcd hmg hobj hints hlen hg) fun r s' hq=>?_)
  obtain ⟨rfl,h2,h3,h4⟩:=hq
  exact ⟨.inl ⟨.bool true,.bool true,[],rfl,fun _=>rfl,.bool true,post_true l _,fun _=>⟨List.Pairwise.nil,fun _ hm=>(nomatch hm)⟩⟩,h2,h3,h4⟩
section
variable {prog : Program} {w : World} {A : Around} {E : Value -> Shared -> Prop} {s : Shared} {K : Frag}
end
end Att
namespace L2
open PySem PySem.Spec PyProof.Rows
theorem vals_ints : ∀ {vs : List Value} {ns : List Int},IntsAre vs ns -> Vals (ns.map V.int) vs
  | _,_,.nil=>.nil
  | _,_,.cons n t h=>.cons ⟨t,rfl⟩ (vals_ints h)
def Only (H : Hp) : Prop:=∀ b,H b = none \/ ∃ o xs,H b = some (.frz o (.lst xs))
theorem law_call {P : Program} {w : World} {K : PySem.W.Frag} {mg mb : Str -> Option Value} {CX : CXT} {k : Nat} {fa a : Addr} {fd : FuncData} {x : Str} {sp : Sp} {s₁ : Shared} {vs : List Value} {ns : List Int}
    (KX : K.In s₁.heap) (hns : s₁.heap.Ns mainGlobals mg) (hb : s₁.heap.Ns builtinsNs mb) (hbb : ∀ x : Str,x ≠ "__name__" -> mb x = bootBuiltins x) (hlim : s₁.heap.NoLimit) (hg : s₁.gens = #[])
    (ha : s₁.heap.get? a = some { cls:=.type "list",data:=.seq vs.toArray }) (hi : IntsAre vs ns) (hl : ns.length <= sizeLine) (hr : Room k callerA)
    (F : ∀ base : Heap,K.In base -> base.Ns mainGlobals mg -> FnOk P w K mg base CX k fa fd [x] sp) (hbind : ∀ (s : Shared) (u : Value),BindsTo s fd ⟨[u],[]⟩ [(x,u)])
    (hsp : ∀ H : Hp,Only H -> SqL K H a (ns.map V.int) -> sp [.ref a] H (fun v _=>v = .bl true) fun _ _ _=>False)
    (hCX : ∀ H e s',CX [] H s₁ (fun _ _ _=>False) e s' -> False) :
    codeAny (model P w) callerA (.call (.ref fa) ⟨[.ref a],[]⟩) (fun r s'=>r = .ok (.ret (.bool true)) /\ OldK s₁.heap s'.heap /\ s'.os = s₁.os /\ AllBare s'.gens) s₁:=by
  have rv:=vals_ints hi
  have lenV:=hi.length
  have core : ∀ H : Hp,Only H -> SqL K H a (ns.map V.int) -> HOk P w H s₁.heap -> (∀ b,H b ≠ none -> b = a) -> (H a ≠ none -> K.lookup a = none) ->
      codeAny (model P w) callerA (.call (.ref fa) ⟨[.ref a],[]⟩) (fun r s'=>r = .ok (.ret (.bool true)) /\ OldK s₁.heap s'.heap /\ s'.os = s₁.os /\ AllBare s'.gens) s₁:=by
    intro H hO hS hok hA hK
    have base_of : ∀ {b : Addr} {o : Obj},s₁.heap.get? b = some o -> H b = none -> (hidT s₁.heap H).get? b = some o:=fun e n=>hidT_get e n
    have noA : ∀ {b : Addr} {o : Obj} {es : Array DictEntry} {ep : Nat},s₁.heap.get? b = some o -> o.data = .dict es ep -> H b = none:=fun {b o es ep} e d=>by
      cases q : H b with
      | none=>rfl
      | some u=>
        have e' : b = a:=hA b (by rw [q]; simp)
        subst e'
        rw [ha] at e; cases e
        have d' : Data.seq vs.toArray _ = Data.dict es ep:=d
        cases d'
    have nsK : ∀ {b : Addr} {m : Str -> Option Value},s₁.heap.Ns b m -> (hidT s₁.heap H).Ns b m:=fun {b m} ⟨o,es,ep,e,d,r⟩=>⟨o,es,ep,base_of e (noA e d),d,r⟩
    have hKb : K.In (hidT s₁.heap H):=fun b o e=>base_of (KX b o e) (by
      cases q : H b with
      | none=>rfl
      | some u=>
        have e' : b = a:=hA b (by rw [q]; simp)
        subst e'
        rw [hK (by rw [q]; simp)] at e; cases e)
    have hM : Mod K mg (hidT s₁.heap H):=⟨hKb,nsK hns,⟨mb,nsK hb,hbb⟩,let ⟨mc,h1,h2⟩:=hlim; ⟨mc,nsK h1,h2⟩⟩
    have e0 : Env0 P w K mg (hidT s₁.heap H) callerA [] s₁ H:=⟨rfl,hM,fun b o e=>of_hidT e,Nat.le_of_eq (hidT_size _ _),trivial,fun b hb=>absurd (show b ∈ ([] : List Addr) from hb) (by simp),hok,.of_eq hg⟩
    refine codeAny_mono ((F _ hKb (nsK hns)).run callerA [] s₁ H ⟨[.ref a],[]⟩ [.ref a] [.ref a] _ _ hr e0 (hbind s₁ (.ref a)) (.cons rfl .nil) (hsp H hO hS)) fun r s' h=>?_
    cases r with
    | error e=>exact (hCX H e s' h).elim
    | ok fl=>
      cases fl with
      | next=>exact False.elim h
      | brk=>exact False.elim h
      | cont=>exact False.elim h
      | ret u=>
        obtain ⟨v,H',os,bare,un,hok',r',q⟩:=h
        have q' : v = .bl true:=q
        subst q'
        obtain rfl : u = Value.bool true:=r'
        refine ⟨rfl,OldK.of_keep fun b o e=>?_,os,bare⟩
        cases q : H b with
        | none=>exact un.keep b o e q (by intro z; exact absurd (show b ∈ ([] : List Addr) from z) (by simp)) (by simp)
        | some u=>
          rcases hO b with z | ⟨ob,xs,z⟩
          · rw [q] at z; cases z
          · have z2:=un.frzs b ob _ z
            obtain ⟨e1,_⟩:=hok b _ z
            obtain ⟨e2,_⟩:=hok' b _ z2
            rw [e] at e1; cases e1
            exact e2
  cases hk : K.lookup a with
  | some o=>
    have e:=KX a o hk
    rw [ha] at e
    cases e
    refine core (fun _=>none) (fun _=>.inl rfl) (.inr ⟨_,vs.toArray,_,hk,rfl,rfl,rfl,by rw [List.size_toArray,lenV]; exact hl,by simpa using rv⟩) (fun b u z=>by have z' : (none : Option HO) = some u:=z; cases z') (fun b z=>absurd rfl z) fun z=>absurd rfl z
  | none=>
    refine core (fun b=>if b = a then some (.frz { cls:=.type "list",data:=.seq vs.toArray } (.lst (ns.map V.int))) else none) (fun b=>?_) (.inl (.inr ⟨{ cls:=.type "list",data:=.seq vs.toArray },if_pos rfl⟩)) (fun b u z=>?_) (fun b z=>?_) fun _=>hk
    · by_cases hb : b = a
      · exact .inr ⟨_,_,if_pos hb⟩
      · exact .inl (if_neg hb)
    · by_cases hb : b = a
      · have z':=(if_pos hb).symm.trans z
        cases z'
        subst hb
        exact ⟨ha,by rw [List.length_map]; exact hl,vs,_,rv,ha⟩
      · have z':=(if_neg hb).symm.trans z
        cases z'
    · by_cases hb : b = a
      · exact hb
      · exact absurd (if_neg hb) z
end L2
namespace L2
open PySem PySem.Spec PyProof.Rows
theorem walk_of {l : PySem.W.OpenLaw} {n k : Nat} {q : Program} {loose : List Str} {XP : (Str -> Option Value) -> Heap -> Prop} {YP : World -> Heap -> Prop} {d : DefRec} {K : Params -> PySem.W.Frag} {CX : World -> CXT} {sp : World -> Sp} {x : Str}
    (hn : l.most = some n) (hn2 : n <= sizeLine) (hdf : d.params.defaults = []) (hr : Room k callerA)
    (hY : ∀ (w : World) (h : Heap),YP w h -> (K w.params).In h)
    (F : ∀ (w : World) (mg : Str -> Option Value) (fa : Addr) (h : Heap),(K w.params).In h -> h.Ns mainGlobals mg -> mg d.name = some (.ref fa) ->
      ∃ fd : FuncData,(∀ (s : Shared) (u : Value),BindsTo s fd ⟨[u],[]⟩ [(x,u)]) /\
        ∀ base : Heap,(K w.params).In base -> base.Ns mainGlobals mg -> FnOk l.prog w (K w.params) mg base (CX w) k fa fd [x] (sp w))
    (hsp : ∀ (w : World) (H : Hp) (a : Addr) (ns : List Int),ns.length <= n -> Only H -> SqL (K w.params) H a (ns.map V.int) -> sp w [.ref a] H (fun v _=>v = .bl true) fun _ _ _=>False)
    (hCX : ∀ (w : World) (H : Hp) (s : Shared) (e : Value) (s' : Shared),CX w [] H s (fun _ _ _=>False) e s' -> False) :
    PySem.W.WalkO q loose XP YP l.row.toRowW d [] (fun f vs=>PySem.call f vs):=by
  refine Att.attach_call hn hdf fun w s₀ s₁ mg mb fa o pm cd doc a vs ns G Y ho hd hcd hmg hobj hints hlen hg=>?_
  have KX:=hY w _ Y
  obtain ⟨fd,hb,hF⟩:=F w mg fa _ KX G.T.g hmg
  exact law_call KX G.T.g G.T.b G.T.builtins G.T.nolimit hg hobj hints (Nat.le_trans hlen hn2) hr hF hb (fun H hO hS=>hsp w H a ns hlen hO hS) fun H e s'=>hCX w H s₁ e s'
end L2
namespace L2
open PySem PySem.Spec PyProof.Rows
def defArgs (s : Stmt) : Arguments:=match s with
  | .FunctionDef _ a _ _ _ _ _ _ _ _=>a
  | _=>{ posonlyargs:=[],args:=[],vararg:=none,kwonlyargs:=[],kw_defaults:=[],kwarg:=none,defaults:=[] }
def defBody (s : Stmt) : List Stmt:=match s with
  | .FunctionDef _ _ b _ _ _ _ _ _ _=>b
  | _=>[]
def defScope (s : Stmt) : Scope:=match s with
  | .FunctionDef _ _ _ _ _ _ sc _ _ _=>sc
  | _=>{ kind:=.function,names:=[],isGenerator:=false,isCoroutine:=false }
abbrev E0 : XK:=fun _ _ _=>False
structure Fun (K : PySem.W.Frag) (x qual : Str) (st : Stmt) (f : Addr) (fd : FuncData) : Prop where
  ex : ∃ (oc : Value) (od : Option Addr) (kV doc pm : Value) (an : Option Addr) (cdv ct : Value) (osl : Array (Option Value)),
    fd = PySem.W.fnOf x qual (defArgs st) (defBody st) (defScope st) .none kV doc pm an cdv ct /\ K.lookup f = some ⟨oc,od,.func fd,osl⟩ /\ PySem.W.codeIn K cdv qual = true
  kp : PySem.W.keepIn K (.ref f) = true
section
variable {P : Program} {w : World} {K : PySem.W.Frag} {mg : Str -> Option Value} {base : Heap}
theorem Fun.binds {x qual : Str} {st : Stmt} {f : Addr} {fd : FuncData} {ps : List Str} (F : Fun K x qual st f fd)
    (h : ∀ (kV doc pm : Value) (an : Option Addr) (cdv ct : Value) (us : List Value),us.length = ps.length -> bindArgs (PySem.W.fnOf x qual (defArgs st) (defBody st) (defScope st) .none kV doc pm an cdv ct) ⟨us,[]⟩ = pure (ps.zip us)) : Binds K fd ps []:=by
  obtain ⟨oc,od,kV,doc,pm,an,cdv,ct,osl,rfl,lk,hcd⟩:=F.ex
  exact .all (h kV doc pm an cdv ct)
theorem fun_mk {x qual : Str} {st : Stmt} {f : Addr} {oc : Value} {od an : Option Addr} {osl : Array (Option Value)} {kV doc pm cdv ct : Value} (l : K.lookup f = some ⟨oc,od,.func (PySem.W.fnOf x qual (defArgs st) (defBody st) (defScope st) .none kV doc pm an cdv ct),osl⟩)
    (c : PySem.W.codeIn K cdv qual = true) (k : PySem.W.keepIn K (.ref f) = true) : Fun K x qual st f (PySem.W.fnOf x qual (defArgs st) (defBody st) (defScope st) .none kV doc pm an cdv ct):=⟨⟨oc,od,kV,doc,pm,an,cdv,ct,osl,rfl,l,c⟩,k⟩
end
theorem small1000 {n : Nat} (h : n <= 1000) : n < sizeLine:=Nat.lt_of_le_of_lt h (by decide)
section
variable {X : Cx}
theorem pv (i : Nat) {x : Str} {pos : Pos} (hN : X.N[i]? = some x:=by rfl) (hv : Vis X.env.scope x:=by first | exact Or.inl rfl | exact Or.inr (Or.inl rfl) | exact Or.inr (Or.inr rfl)) (hd : (x == ("__debug__" : Str)) = false:=by decide)
    (hcd : (x == ("__classdict__" : Str)) = false:=by decide) : PE X (.Name x pos) (tVar i):=pe_var hN hv hd hcd
end
theorem iteF {A B : Prop} (h : B) : if false = true then A else B:=by
  rw [if_neg Bool.false_ne_true]
  exact h
theorem iteT {A B : Prop} (h : A) : if true = true then A else B:=by
  rw [if_pos rfl]
  exact h
def Same (H H' : Hp) : Prop:=∀ b o,H b = some o -> H' b = some o
theorem Same.refl (H : Hp) : Same H H:=fun _ _ h=>h
end L2
namespace L2
open PySem PySem.Spec PyProof.Rows
def Itrs (lo c : Int) (n : Nat) : It:=⟨fun i _=>i < n,fun i H x H'=>H' = H /\ x = .int (lo + i * c),fun i _=>n <= i⟩
theorem turn_range3 {P : Program} {w : World} {K : PySem.W.Frag} {tg : Expr} (it : Addr) (lo c : Int) (n : Nat) : Turn P w K tg (Itrs lo c n) [it] it (fun i h=>IsRangeIter h it (lo + (i : Nat) * c) ((n : Int) - (i : Nat)) c) where
  mem:=by simp
  obj:=fun i h st b hb=>by
    have e : b = it:=by simpa using hb
    subst e
    exact ⟨_,st,fun v z=>by
      have z' : Data.fields _ = Data.cell v:=z
      cases z'⟩
  keep:=fun i h h' st k=>k it (by simp) _ st
  item:=by
    intro X hP hw hK hc i pins s σ H E I hf st hg
    subst hP hw hK
    obtain ⟨f0,f1,f2,f3,f4,f5⟩:=hf it (by simp)
    have W:=Walks.range (prog:=X.prog) (w:=X.w) (I.ok.hd hc) it lo c n
    refine W.item i s _ _ hg st fun v h' tk hv st' kk=>?_
    obtain ⟨t,rfl⟩:=hv
    have I1 : Inv X pins σ H { s with heap:=h',toks:=tk }:=I.turned (fun b o hb e=>kk b o (by simpa using hb) e) f0 f1 f3 f4 f5
    exact ⟨_,rfl,go_of (s:={ s with heap:=h',toks:=tk }) (n := "range_iterator") st' rfl rfl (by decide) ⟨.int (lo + i * c),H,I1,⟨t,rfl⟩,⟨rfl,rfl⟩,st',fun b hb=>(hf b hb).1⟩⟩
  done:=by
    intro X hP hw hK hc i pins s σ H E I hf st hg
    subst hP hw hK
    obtain ⟨f0,f1,f2,f3,f4,f5⟩:=hf it (by simp)
    exact wpAny_pyNext_range_end (I.ok.hd hc) st (by have : n <= i:=hg; omega) fun h' eb=>⟨rfl,I.turned (t':=s.toks) (fun b o hb e=>eb b o hb e) f0 f1 f3 f4 f5⟩
  self:=fun _ _ _ _ _ st h=>wpAny_pyIter_rangeiter st h
section
variable {X : Cx} {tg : Expr}
def rsz (a b c : Int) : Nat:=(Builtin.Range.rangeSize a b c).toNat
theorem rsz_nn (a b c : Int) : 0 <= Builtin.Range.rangeSize a b c:=by
  unfold Builtin.Range.rangeSize
  split
  · split
    · rename_i h1 h2
      have:=Int.ediv_nonneg (show 0 <= b - a - 1 by omega) (show 0 <= c by omega)
      omega
    · omega
  · split
    · rename_i h1 h2
      have:=Int.ediv_nonneg (show 0 <= a - b - 1 by omega) (show 0 <= -c by omega)
      omega
    · omega
theorem rsz_le {a b c : Int} (hc : c ≠ 0) {M : Int} (h0 : 0 <= M) (h1 : b - a <= M) (h2 : a - b <= M) : Builtin.Range.rangeSize a b c <= M:=by
  unfold Builtin.Range.rangeSize
  split
  · split
    · rename_i p q
      have:=Int.ediv_le_self c (show 0 <= b - a - 1 by omega)
      omega
    · exact h0
  · split
    · rename_i p q
      have:=Int.ediv_le_self (-c) (show 0 <= a - b - 1 by omega)
      omega
    · exact h0
theorem range_it3 {pins : List (Addr × Obj)} {σ : St} {H : Hp} {s : Shared} {R : It -> Hp -> Prop} {E : Value -> Shared -> Prop} {lo hi c : Int} {t u v : Tok} {tk : Nat} (I : Inv X pins σ H s) (hs : Builtin.Range.small lo hi c = true)
    (q : R (Itrs lo c (rsz lo hi c)) H) : wpAny (model X.prog X.w) X.A (pyIter (.ref s.heap.objs.size)) (PIE X pins σ tg R) E { s with heap:=s.heap.push { cls:=.type "range",data:=.fields #[.int lo t,.int hi u,.int c v] },toks:=tk }:=by
  refine wpAny_pyIter_range (IsRange.new ..) hs ?_
  have I1 : Inv X pins σ H { s with heap:=s.heap.push { cls:=.type "range",data:=.fields #[.int lo t,.int hi u,.int c v] },toks:=tk }:=I.kept fun b o e=>Heap.get?_push_of_some _ e
  refine ⟨(s.heap.push { cls:=.type "range",data:=.fields #[.int lo t,.int hi u,.int c v] }).objs.size,[(s.heap.push { cls:=.type "range",data:=.fields #[.int lo t,.int hi u,.int c v] }).objs.size],_,_,H,rfl,
    I1.kept (t':=tk) fun b o e=>Heap.get?_push_of_some _ e,turn_range3 _ lo c (rsz lo hi c),?_,fun b hb=>?_,q⟩
  · have e1 : lo + ((0 : Nat) : Int) * c = lo:=by simp
    have e2 : (((rsz lo hi c : Nat) : Int)) - ((0 : Nat) : Int) = Builtin.Range.rangeSize lo hi c:=by unfold rsz; have:=rsz_nn lo hi c; omega
    show IsRangeIter _ _ (lo + ((0 : Nat) : Int) * c) ((rsz lo hi c : Int) - ((0 : Nat) : Int)) c
    rw [e1,e2]
    exact Heap.get?_push_size _ rfl
  · have e : b = (s.heap.push { cls:=.type "range",data:=.fields #[.int lo t,.int hi u,.int c v] }).objs.size:=by simpa using hb
    subst e
    exact I1.fpOk (Nat.le_refl _) (I1.hok.fresh (Nat.le_refl _))
def iRng3 (ta : TA) : TI:=fun σ H R=>ta σ H fun vs H1=>∃ i j c : Int,vs = [.int i,.int j,.int c] /\ (c ≠ 0 /\ -1000000 <= i /\ i <= 1000000 /\ -1000000 <= j /\ j <= 1000000 /\ -1000000 <= c /\ c <= 1000000) /\ R (Itrs i c (rsz i j c)) H1
theorem fitsL {a : Int} (h1 : -(2 ^ 62) <= a) (h2 : a < 2 ^ 62) : Builtin.Range.rangeFitsLong a = true:=by
  unfold Builtin.Range.rangeFitsLong
  simp only [Bool.and_eq_true,decide_eq_true_eq]
  omega
theorem small3 {a b c : Int} (hc : c ≠ 0) (h1 : -1000000 <= a) (h2 : a <= 1000000) (h3 : -1000000 <= b) (h4 : b <= 1000000) (h5 : -1000000 <= c) (h6 : c <= 1000000) : Builtin.Range.small a b c = true:=by
  have r1:=rsz_nn a b c
  have r2:=rsz_le (a:=a) (b:=b) hc (M:=2000000) (by omega) (by omega) (by omega)
  unfold Builtin.Range.small
  rw [fitsL (a:=a) (by omega) (by omega),fitsL (a:=b) (by omega) (by omega),fitsL (a:=c) (by omega) (by omega),fitsL (by omega) (by omega)]
  split
  · rw [fitsL (by omega) (by omega)]; simp
  · rw [fitsL (by omega) (by omega)]; simp
theorem pi_range3 {a b c : Expr} {ta : TA} {p pos : Pos} (hg : Gl X "range") (hm : X.mg "range" = none) (ha : PA X [a,b,c] ta) (hs : starEach [a,b,c] X.env = [(false,eval a X.env),(false,eval b X.env),(false,eval c X.env)]:=by rfl) (hs2 : starEach [b,c] X.env = [(false,eval b X.env),(false,eval c X.env)]:=by rfl) :
    PI X tg (.Call (.Name "range" p) [a,b,c] [] pos) (iRng3 ta):=by
  intro pins s σ H R I h
  refine Call_ (ld_blt I hg hm boot_range (PyProof.Rows.callWith_type1 (thn (ha pos pins s σ H _ I h) fun us s1 ⟨vs,H1,I1,r1,q1⟩=>?_) (by rw [hs,hs2]) (by rw [hs2]; rfl)))
  obtain ⟨i,j,c,e,⟨q0,q1,q2,q3,q4,q5,q6⟩,q⟩:=q1
  subst e
  cases r1 with
  | cons r rr=>
    cases rr with
    | cons r' rr=>
      cases rr with
      | cons r'' rr=>
        cases rr
        obtain ⟨t,rfl⟩:=r
        obtain ⟨t',rfl⟩:=r'
        obtain ⟨t'',rfl⟩:=r''
        refine call_range_3 q0 (range_it3 I1 (small3 q0 q1 q2 q3 q4 q5 q6) q) (.inl ?_)
        exact PyProof.noPylong_small (by omega)
end
end L2
namespace L2
open PySem PySem.Spec PyProof.Rows
theorem closure_of {scope : Scope} {env : Env} (h : ∀ x ∈ scope.names,x.2 = .free -> ∃ c,env.cells.lookup x.1 = some c) :
    ∃ cl,closureFor scope env = pure cl /\ (∀ x c,cl.lookup x = some c -> env.cells.lookup x = some c) /\ (∀ x ∈ scope.names,x.2 = .free -> ∃ c,cl.lookup x.1 = some c):=by
  have key : ∀ (l : List (Str × NameKind)) (acc : List (Str × Addr)),(∀ x ∈ l,x.2 = .free -> ∃ c,env.cells.lookup x.1 = some c) -> (∀ x c,acc.lookup x = some c -> env.cells.lookup x = some c) ->
      ∃ cl,(forIn l acc fun (x : Str × NameKind) (r : List (Str × Addr))=>(match x with
        | (name,kind)=>if (kind == NameKind.free) = true then (do let c <- cellOf env name; pure (ForInStep.yield ((name,c) :: r))) else (do pure PUnit.unit; pure (ForInStep.yield r)) : Sem (ForInStep (List (Str × Addr))))) = pure cl /\
        (∀ x c,cl.lookup x = some c -> env.cells.lookup x = some c) /\ (∀ x ∈ l,x.2 = .free -> ∃ c,cl.lookup x.1 = some c) /\ (∀ x c,acc.lookup x = some c -> ∃ c',cl.lookup x = some c'):=by
    intro l
    induction l with
    | nil=>intro acc _ ha; exact ⟨acc,rfl,ha,fun x hx=>(by simp at hx),fun x c e=>⟨c,e⟩⟩
    | cons x r ih=>
      intro acc hl ha
      obtain ⟨n,k⟩:=x
      by_cases hk : k = .free
      · subst hk
        obtain ⟨c,hc⟩:=hl (n,.free) List.mem_cons_self rfl
        have ha' : ∀ x c',((n,c) :: acc).lookup x = some c' -> env.cells.lookup x = some c':=fun x c' e=>by
          rw [List.lookup_cons] at e
          by_cases hx : x = n
          · subst hx; simp at e; rw [<- e]; exact hc
          · have : (x == n) = false:=by simpa using hx
            rw [this] at e; exact ha x c' e
        obtain ⟨cl,e1,e2,e3,e4⟩:=ih ((n,c) :: acc) (fun y hy=>hl y (List.mem_cons_of_mem _ hy)) ha'
        refine ⟨cl,?_,e2,fun y hy hf=>?_,fun y c' e=>?_⟩
        · rw [List.forIn_cons]
          have hcell : cellOf env n = pure c:=by unfold cellOf; rw [hc]
          simp only [beq_self_eq_true,if_true,hcell]
          exact e1
        · rcases List.mem_cons.mp hy with e | hy
          · subst e
            exact e4 n c (by simp)
          · exact e3 y hy hf
        · by_cases hy : y = n
          · subst hy; exact e4 y c (by simp)
          · have : (y == n) = false:=by simpa using hy
            exact e4 y c' (by rw [List.lookup_cons,this]; exact e)
      · obtain ⟨cl,e1,e2,e3,e4⟩:=ih acc (fun y hy=>hl y (List.mem_cons_of_mem _ hy)) ha
        refine ⟨cl,?_,e2,fun y hy hf=>?_,e4⟩
        · rw [List.forIn_cons]
          have : (k == NameKind.free) = false:=by simpa using hk
          simp only [this,Bool.false_eq_true,if_false]
          exact e1
        · rcases List.mem_cons.mp hy with e | hy
          · subst e; exact absurd hf hk
          · exact e3 y hy hf
  obtain ⟨cl,e1,e2,e3,_⟩:=key scope.names [] h (fun x c e=>by simp at e)
  refine ⟨cl,?_,e2,e3⟩
  unfold closureFor
  exact (congrArg (fun z=>z >>= pure) e1).trans rfl
theorem lookup_relab (f : Str -> NameKind -> NameKind) (x : Str) : ∀ l : List (Str × NameKind),(l.map fun y=>(y.1,f y.1 y.2)).lookup x = (l.lookup x).map (f x)
  | []=>rfl
  | (n,k) :: r=>by
    have ih:=lookup_relab f x r
    rw [List.map_cons,List.lookup_cons,List.lookup_cons]
    by_cases hx : x = n
    · subst hx; simp
    · have hb : (x == n) = false:=by simpa using hx
      rw [hb]; exact ih
theorem relabel_lookup {scope : Scope} {env : Env} {x : Str} : (relabel scope env).names.lookup x =
    (scope.names.lookup x).map fun k=>if (k == .free && env.scope.kind == .function && env.kindOf x == some .cell) then .cell else k:=by
  rw [<- lookup_relab (fun n k=>if (k == .free && env.scope.kind == .function && env.kindOf n == some .cell) then .cell else k)]
  unfold relabel
  refine congrArg (List.lookup x) (List.map_congr_left fun y _=>?_)
  obtain ⟨n,k⟩:=y
  show (if (k == NameKind.free && env.scope.kind == .function && env.kindOf n == some .cell) = true then (n,NameKind.cell) else (n,k)) = _
  split <;> rfl
def capOf (cap : List (Option Nat)) (σ : St) : St:=cap.map fun c=>c.bind fun j=>(σ[j]?).join
section
variable {prog : Program} {w : World} {A : Around} {R : Result -> Shared -> Prop} {s : Shared}
end
section
variable {X : Cx}
theorem HOk.same {P : Program} {w : World} {H : Hp} {h h' : Heap} {a : Addr} (ok : HOk P w H h) (hn : H a = none) (hs : Heap.SameBut a h h') : HOk P w H h':=fun b ob e=>by
  refine (ok b ob e).stay (fun c w' hc q=>(hs.2 c ?_).trans q) (fun _ q=>q) fun _ _ q=>q
  rintro rfl
  rcases hc with rfl | hc
  · rw [hn] at e; cases e
  · rw [hn] at hc; cases hc
end
end L2
namespace L2
open PySem PySem.Spec PyProof.Rows
def HasItems (t : Bool) (h : Heap) (a : Addr) (items : Array Value) : Prop:=if t = true then h.IsTuple a items else h.IsList a items
def IterAt (t : Bool) (h : Heap) (it a : Addr) (i : Nat) : Prop:=if t = true then h.IsTupleIter it a i else h.IsListIter it a i
theorem HasItems.at {t : Bool} {h h' : Heap} {a : Addr} {items : Array Value} (x : HasItems t h a items) (k : ∀ o,h.get? a = some o -> h'.get? a = some o) : HasItems t h' a items:=by
  cases t
  · exact Heap.IsList.at x k
  · obtain ⟨o,e,r⟩:=x
    exact ⟨o,k o e,r⟩
theorem HasItems.there {t : Bool} {h : Heap} {a : Addr} {items : Array Value} (x : HasItems t h a items) : ∃ o,h.get? a = some o:=by
  cases t
  · obtain ⟨o,e,_⟩:=x; exact ⟨o,e⟩
  · obtain ⟨o,e,_⟩:=x; exact ⟨o,e⟩
theorem IterAt.at {t : Bool} {h h' : Heap} {it a : Addr} {i : Nat} (x : IterAt t h it a i) (k : ∀ o,h.get? it = some o -> h'.get? it = some o) : IterAt t h' it a i:=by
  cases t
  · exact Heap.IsListIter.at x k
  · obtain ⟨o,e,r⟩:=x
    exact ⟨o,k o e,r⟩
theorem IterAt.there {t : Bool} {h : Heap} {it a : Addr} {i : Nat} (x : IterAt t h it a i) : ∃ o,h.get? it = some o /\ ∀ v,o.data ≠ .cell v:=by
  cases t
  · obtain ⟨o,e,_,d⟩:=x; exact ⟨o,e,fun v z=>by rw [d] at z; cases z⟩
  · obtain ⟨o,e,_,d⟩:=x; exact ⟨o,e,fun v z=>by rw [d] at z; cases z⟩
section
variable {prog : Program} {w : World} {A : Around} {E : Value -> Shared -> Prop} {s : Shared}
theorem nextOf_tuple_item {it l : Addr} {i : Nat} {items} {x : Value} {Q : Value -> Shared -> Prop} (hit : s.heap.IsTupleIter it l i)
    (hl : s.heap.IsTuple l items) (hx : items[i]? = some x)
    (hQ : ∀ h',h'.IsTupleIter it l (i + 1) -> Heap.SameBut it s.heap h' -> Q x { s with heap:=h' }) :
    wpAny (model prog w) A (Builtin.SmallTypes.nextOf (.ref it)) Q E s:=by
  obtain ⟨o,ho,hc,hd⟩:=id hit
  obtain ⟨ol,hol,_,nl,hdl⟩:=hl
  unfold Builtin.SmallTypes.nextOf
  refine wpAny_bind (wpAny_callSpecial?_slot (name:=Str.ofString "__next__") hit.typeIs F.slot_tuple_iterator_next
    (wpAny_call_entry F.slot_tuple_iterator_next hit.typeIs F.entry_tuple_iterator_next ?_ (F.args_tuple_iterator_next_1 _)))
  show wpAny _ _ (field (.ref it) 0 >>= _) _ _ s
  refine wpAny_bind (wpAny_field ho hd (x:=.ref l) rfl ?_)
  show wpAny _ _ (if (Value.ref l == Value.none) = true then _ else _) _ _ s
  rw [if_neg (show ¬ ((Value.ref l == Value.none) = true) from Bool.false_ne_true)]
  show wpAny _ _ (field (.ref it) 1 >>= _) _ _ s
  refine wpAny_bind (wpAny_field ho hd (x:=.int i 0) rfl ?_)
  show wpAny _ _ (seqItems? (.ref l) >>= _) _ _ s
  refine wpAny_bind (wpAny_seqItems hol hdl ?_)
  simp only [Int.toNat_natCast,hx]
  refine wpAny_bind (wpAny_setField ho hd (by simp) (wpAny_pure ⟨x,rfl,wpAny_pure (hQ _ ?_ (Heap.SameBut.update ..))⟩))
  exact ⟨_,Heap.get?_update_self _ ho (Obj.isFreed_of_fields (Obj.data_mapFields hd _)),(Obj.cls_mapFields ..).trans hc,by
    rw [Obj.data_mapFields hd]; simp [rawInt]⟩
theorem nextOf_tuple_end {it l : Addr} {i : Nat} {items} {Q : Value -> Shared -> Prop} (hh : A.handled = none)
    (hit : s.heap.IsTupleIter it l i) (hl : s.heap.IsTuple l items) (hx : items[i]? = none)
    (hE : ∀ h' e,Heap.ExtBut it s.heap h' -> (∃ o,h'.get? e = some o /\ o.cls = .type "StopIteration") -> E (.ref e) { s with heap:=h' }) :
    wpAny (model prog w) A (Builtin.SmallTypes.nextOf (.ref it)) Q E s:=by
  obtain ⟨o,ho,hc,hd⟩:=id hit
  obtain ⟨ol,hol,_,nl,hdl⟩:=hl
  unfold Builtin.SmallTypes.nextOf
  refine wpAny_bind (wpAny_callSpecial?_slot (name:=Str.ofString "__next__") hit.typeIs F.slot_tuple_iterator_next
    (wpAny_call_entry F.slot_tuple_iterator_next hit.typeIs F.entry_tuple_iterator_next ?_ (F.args_tuple_iterator_next_1 _)))
  show wpAny _ _ (field (.ref it) 0 >>= _) _ _ s
  refine wpAny_bind (wpAny_field ho hd (x:=.ref l) rfl ?_)
  show wpAny _ _ (if (Value.ref l == Value.none) = true then _ else _) _ _ s
  rw [if_neg (show ¬ ((Value.ref l == Value.none) = true) from Bool.false_ne_true)]
  show wpAny _ _ (field (.ref it) 1 >>= _) _ _ s
  refine wpAny_bind (wpAny_field ho hd (x:=.int i 0) rfl ?_)
  show wpAny _ _ (seqItems? (.ref l) >>= _) _ _ s
  refine wpAny_bind (wpAny_seqItems hol hdl ?_)
  simp only [Int.toNat_natCast,hx]
  refine wpAny_bind (wpAny_rule (wpAny_bind (wpAny_setField ho hd (by simp) ?_)))
  show wpAny _ _ (newExc (.type "StopIteration") [] >>= _) _ _ _
  refine wpAny_bind ?_
  simp only [newExc,newTuple]
  refine wpAny_bind (wpAny_newObj_type ?_ (by size_fits))
  refine wpAny_bind (m:=firstArgMember _ _) (wpAny_of_eq (a:=Value.none) (by first | rfl | (simp only [firstArgMember]; rfl)) ?_)
  refine wpAny_newObj_type ?_ (by size_fits)
  simp only [raiseNew]
  refine wpAny_bind (wpAny_handled ?_)
  first | rw [show A.in1.handled = none from hh] | rw [hh]
  refine wpAny_bind (wpAny_pure (wpAny_throw ?_))
  exact hE _ _ (((Heap.SameBut.update ..).extBut.push _).push _) ⟨_,Heap.get?_push_size _ rfl,rfl⟩
theorem nextOf_item {t : Bool} {it l : Addr} {i : Nat} {items : Array Value} {x : Value} {Q : Value -> Shared -> Prop} (hit : IterAt t s.heap it l i)
    (hl : HasItems t s.heap l items) (hx : items[i]? = some x)
    (hQ : ∀ h',IterAt t h' it l (i + 1) -> Heap.SameBut it s.heap h' -> Q x { s with heap:=h' }) :
    wpAny (model prog w) A (Builtin.SmallTypes.nextOf (.ref it)) Q E s:=by
  cases t
  · exact wpAny_nextOf_list_item hit hl hx hQ
  · exact nextOf_tuple_item hit hl hx hQ
theorem nextOf_end {t : Bool} {it l : Addr} {i : Nat} {items : Array Value} {Q : Value -> Shared -> Prop} (hh : A.handled = none)
    (hit : IterAt t s.heap it l i) (hl : HasItems t s.heap l items) (hx : items[i]? = none)
    (hE : ∀ h' e,Heap.ExtBut it s.heap h' -> (∃ o,h'.get? e = some o /\ o.cls = .type "StopIteration") -> E (.ref e) { s with heap:=h' }) :
    wpAny (model prog w) A (Builtin.SmallTypes.nextOf (.ref it)) Q E s:=by
  cases t
  · exact wpAny_nextOf_list_end hh hit hl hx hE
  · exact nextOf_tuple_end hh hit hl hx hE
def iterObj (t : Bool) (l : Addr) : Obj:=if t = true then { cls:=.type "tuple_iterator",data:=.fields #[.ref l,.int 0 0] } else { cls:=.type "list_iterator",data:=.fields #[.ref l,.int 0 0] }
theorem pyIter_seq {t : Bool} {l : Addr} {items : Array Value} {Q : Value -> Shared -> Prop} (hl : HasItems t s.heap l items)
    (hQ : Q (.ref s.heap.objs.size) { s with heap:=s.heap.push (iterObj t l) }) : wpAny (model prog w) A (pyIter (.ref l)) Q E s:=by
  cases t
  · exact wpAny_pyIter_list hl hQ
  · exact wpAny_pyIter_tuple hl hQ
theorem iterObj_at {t : Bool} {h : Heap} {it l : Addr} (e : h.get? it = some (iterObj t l)) : IterAt t h it l 0:=by
  cases t
  · exact ⟨_,e,rfl,rfl⟩
  · exact ⟨_,e,rfl,rfl⟩
theorem iterObj_free (t : Bool) (l : Addr) : (iterObj t l).isFreed = false:=by cases t <;> rfl
theorem zipG_item {t1 t2 : Bool} {z TI TO i1 i2 l1 l2 : Addr} {k1 k2 : Nat} {xs ys : Array Value} {x y a b : Value} {Q : Value -> Shared -> Prop} (D : ZipApart z TI TO i1 i2 l1 l2)
    (hz : IsZip s.heap z TI TO .none) (hTI : IsPair s.heap TI (.ref i1) (.ref i2)) (hTO : IsPair s.heap TO a b)
    (h1 : IterAt t1 s.heap i1 l1 k1) (h2 : IterAt t2 s.heap i2 l2 k2) (hl1 : HasItems t1 s.heap l1 xs) (hl2 : HasItems t2 s.heap l2 ys) (hx : xs[k1]? = some x) (hy : ys[k2]? = some y)
    (hQ : ∀ h',IsZip h' z TI TO (rawInt s.heap.objs.size) -> IsPair h' TO x y -> IterAt t1 h' i1 l1 (k1 + 1) -> IterAt t2 h' i2 l2 (k2 + 1) -> IsPair h' s.heap.objs.size x y -> h'.objs.size = s.heap.objs.size + 1 ->
      (∀ c o,c ≠ z -> c ≠ TO -> c ≠ i1 -> c ≠ i2 -> s.heap.get? c = some o -> h'.get? c = some o) -> Q (.ref s.heap.objs.size) { s with heap:=h' }) :
    wpAny (model prog w) A (Builtin.«zip.__next__» ⟨[.ref z],[]⟩) (fun fin s'=>∃ v,fin = .done (.ret v) /\ Q v s') E s:=by
  show wpAny _ _ (field (.ref z) 2 >>= _) _ _ _
  refine wpAny_bind (wpAny_field hz rfl (x:=.bool false) rfl ?_)
  show wpAny _ _ (field (.ref z) 3 >>= _) _ _ _
  refine wpAny_bind (wpAny_field hz rfl (x:=.ref TI) rfl ?_)
  refine wpAny_bind (wpAny_seqItems hTI rfl ?_)
  show wpAny _ _ (Builtin.SmallTypes.ownedTupleIsFree (.ref z) >>= _) _ _ _
  refine wpAny_bind ?_
  unfold Builtin.SmallTypes.ownedTupleIsFree
  refine wpAny_bind (wpAny_field hz rfl (x:=.none) rfl (wpAny_pure ?_))
  simp only [if_true]
  refine wpAny_bind (wpAny_rule ?_)
  refine wpAny_bind (wpAny_field hz rfl (x:=.ref TO) rfl ?_)
  refine wpAny_bind (wpAny_setField_rec hz (by simp) fun h₁ hz₁ hs₁=>?_)
  replace hz₁ : IsZip h₁ z TI TO .ellipsis:=hz₁
  refine wpAny_bind ?_
  simp only [List.zipIdx_cons,List.zipIdx_nil,List.forIn_cons,List.forIn_nil]
  refine wpAny_bind (wpAny_bind (wpAny_onRaise ?_))
  show wpAny _ _ (Builtin.SmallTypes.nextOf (.ref i1) >>= _) _ _ _
  refine wpAny_bind (nextOf_item (h1.at fun o e=>hs₁.extBut _ _ D.i1z e) (hl1.at fun o e=>hs₁.extBut _ _ D.l1z e) hx fun h₂ h1₂ hs₂=>wpAny_pure ?_)
  have hTO₂ : IsPair h₂ TO a b:=hs₂.extBut _ _ D.TOi1 (hs₁.extBut _ _ D.TOz hTO)
  refine wpAny_bind (wpAny_seqItems hTO₂ rfl ?_)
  refine wpAny_bind (wpAny_updateSeq_pair hTO₂ fun h₃ hTO₃ hs₃=>?_)
  replace hTO₃ : IsPair h₃ TO x b:=hTO₃
  refine wpAny_bind (wpAny_letGo (wpAny_pure ?_))
  refine wpAny_bind (wpAny_bind (wpAny_onRaise ?_))
  show wpAny _ _ (Builtin.SmallTypes.nextOf (.ref i2) >>= _) _ _ _
  refine wpAny_bind (nextOf_item (h2.at fun o e=>hs₃.extBut _ _ D.TOi2.symm (hs₂.extBut _ _ D.i12.symm (hs₁.extBut _ _ D.i2z e)))
    (hl2.at fun o e=>hs₃.extBut _ _ D.l2TO (hs₂.extBut _ _ D.l2i1 (hs₁.extBut _ _ D.l2z e))) hy fun h₄ h2₄ hs₄=>wpAny_pure ?_)
  have hTO₄ : IsPair h₄ TO x b:=hs₄.extBut _ _ D.TOi2 hTO₃
  refine wpAny_bind (wpAny_seqItems hTO₄ rfl ?_)
  refine wpAny_bind (wpAny_updateSeq_pair hTO₄ fun h₅ hTO₅ hs₅=>?_)
  replace hTO₅ : IsPair h₅ TO x y:=hTO₅
  refine wpAny_bind (wpAny_letGo (wpAny_pure (wpAny_pure ?_)))
  refine wpAny_bind (wpAny_seqItems hTO₅ rfl ?_)
  refine wpAny_bind (wpAny_newTuple ?_)
  have hsz : h₅.objs.size = s.heap.objs.size:=by rw [hs₅.1,hs₄.1,hs₃.1,hs₂.1,hs₁.1]
  have hz₅ : IsZip h₅ z TI TO .ellipsis:=hs₅.extBut _ _ D.TOz.symm (hs₄.extBut _ _ D.i2z.symm (hs₃.extBut _ _ D.TOz.symm (hs₂.extBut _ _ D.i1z.symm hz₁)))
  have hk₅ : ∀ c o,c ≠ z -> c ≠ TO -> c ≠ i1 -> c ≠ i2 -> s.heap.get? c = some o -> h₅.get? c = some o:=fun c o c1 c2 c3 c4 e=>
    hs₅.extBut _ _ c2 (hs₄.extBut _ _ c4 (hs₃.extBut _ _ c2 (hs₂.extBut _ _ c3 (hs₁.extBut _ _ c1 e))))
  have h1₅ : IterAt t1 h₅ i1 l1 (k1 + 1):=h1₂.at fun o e=>hs₅.extBut _ _ D.TOi1.symm (hs₄.extBut _ _ D.i12 (hs₃.extBut _ _ D.TOi1.symm e))
  have h2₅ : IterAt t2 h₅ i2 l2 (k2 + 1):=h2₄.at fun o e=>hs₅.extBut _ _ D.TOi2.symm e
  have hzlt : z < h₅.objs.size:=Heap.lt_size hz₅
  show wpAny _ _ (Builtin.SmallTypes.ownedTupleHandOut (.ref z) (.ref h₅.objs.size) >>= _) _ _ _
  refine wpAny_bind ?_
  unfold Builtin.SmallTypes.ownedTupleHandOut
  have hz₆ : IsZip (h₅.push { cls:=.type "tuple",data:=.seq #[x,y] }) z TI TO .ellipsis:=Heap.get?_push_of_some _ hz₅
  refine wpAny_bind (wpAny_setField_rec hz₆ (by simp) fun h₇ hz₇ hs₇=>?_)
  replace hz₇ : IsZip h₇ z TI TO (rawInt h₅.objs.size):=hz₇
  refine wpAny_setField_rec hz₇ (by simp) fun h₈ hz₈ hs₈=>?_
  replace hz₈ : IsZip h₈ z TI TO (rawInt h₅.objs.size):=hz₈
  have up : ∀ c o,c ≠ z -> h₅.get? c = some o -> h₈.get? c = some o:=fun c o c1 e=>hs₈.extBut _ _ c1 (hs₇.extBut _ _ c1 (Heap.get?_push_of_some _ e))
  have hT₈ : IsPair h₈ h₅.objs.size x y:=hs₈.extBut _ _ (Nat.ne_of_gt hzlt) (hs₇.extBut _ _ (Nat.ne_of_gt hzlt) (Heap.get?_push_size _ rfl))
  have hz8 : h₈.objs.size = h₅.objs.size + 1:=by rw [hs₈.1,hs₇.1,Heap.size_push]
  rw [hsz] at hz₈ hT₈ hz8
  refine wpAny_pure ⟨_,rfl,?_⟩
  show Q (.ref h₅.objs.size) _
  rw [hsz]
  exact hQ h₈ hz₈ (up _ _ D.TOz hTO₅) (h1₅.at fun o e=>up _ o D.i1z e) (h2₅.at fun o e=>up _ o D.i2z e) hT₈ hz8 fun c o c1 c2 c3 c4 e=>up c o c1 (hk₅ c o c1 c2 c3 c4 e)
theorem zipG_end {t1 t2 : Bool} {z TI TO i1 i2 l1 l2 : Addr} {k1 k2 : Nat} {xs ys : Array Value} {a b : Value} {Q : Fin -> Shared -> Prop} (hh : A.handled = none) (D : ZipApart z TI TO i1 i2 l1 l2)
    (hz : IsZip s.heap z TI TO .none) (hTI : IsPair s.heap TI (.ref i1) (.ref i2)) (hTO : IsPair s.heap TO a b)
    (h1 : IterAt t1 s.heap i1 l1 k1) (h2 : IterAt t2 s.heap i2 l2 k2) (hl1 : HasItems t1 s.heap l1 xs) (hl2 : HasItems t2 s.heap l2 ys) (hend : xs[k1]? = none \/ ys[k2]? = none)
    (hE : ∀ h' e,(∀ c o,c ≠ z -> c ≠ TO -> c ≠ i1 -> c ≠ i2 -> s.heap.get? c = some o -> h'.get? c = some o) -> (∃ o,h'.get? e = some o /\ o.cls = .type "StopIteration") -> E (.ref e) { s with heap:=h' }) :
    wpAny (model prog w) A (Builtin.«zip.__next__» ⟨[.ref z],[]⟩) Q E s:=by
  show wpAny _ _ (field (.ref z) 2 >>= _) _ _ _
  refine wpAny_bind (wpAny_field hz rfl (x:=.bool false) rfl ?_)
  show wpAny _ _ (field (.ref z) 3 >>= _) _ _ _
  refine wpAny_bind (wpAny_field hz rfl (x:=.ref TI) rfl ?_)
  refine wpAny_bind (wpAny_seqItems hTI rfl ?_)
  show wpAny _ _ (Builtin.SmallTypes.ownedTupleIsFree (.ref z) >>= _) _ _ _
  refine wpAny_bind ?_
  unfold Builtin.SmallTypes.ownedTupleIsFree
  refine wpAny_bind (wpAny_field hz rfl (x:=.none) rfl (wpAny_pure ?_))
  simp only [if_true]
  refine wpAny_bind (wpAny_rule ?_)
  refine wpAny_bind (wpAny_field hz rfl (x:=.ref TO) rfl ?_)
  refine wpAny_bind (wpAny_setField_rec hz (by simp) fun h₁ hz₁ hs₁=>?_)
  replace hz₁ : IsZip h₁ z TI TO .ellipsis:=hz₁
  refine wpAny_bind ?_
  simp only [List.zipIdx_cons,List.zipIdx_nil,List.forIn_cons,List.forIn_nil]
  refine wpAny_bind (wpAny_bind (wpAny_onRaise ?_))
  show wpAny _ _ (Builtin.SmallTypes.nextOf (.ref i1) >>= _) _ _ _
  cases hx : xs[k1]? with
  | none=>
    refine wpAny_bind (nextOf_end hh (h1.at fun o e=>hs₁.extBut _ _ D.i1z e) (hl1.at fun o e=>hs₁.extBut _ _ D.l1z e) hx fun h₂ e hs₂ he=>?_)
    obtain ⟨oe,hoe,hce⟩:=he
    have hz₂ : IsZip h₂ z TI TO .ellipsis:=hs₂ _ _ D.i1z.symm hz₁
    have hez : e ≠ z:=fun x=>by subst x; rw [hz₂] at hoe; cases hoe; simp at hce
    refine wpAny_setField_rec hz₂ (by simp) fun h₃ _ hs₃=>hE h₃ e (fun c o c1 _ c3 _ x=>hs₃.extBut _ _ c1 (hs₂ _ _ c3 (hs₁.extBut _ _ c1 x))) ⟨oe,hs₃.extBut _ _ hez hoe,hce⟩
  | some x=>
    have hy : ys[k2]? = none:=by rcases hend with h | h; rw [hx] at h; cases h; exact h
    refine wpAny_bind (nextOf_item (h1.at fun o e=>hs₁.extBut _ _ D.i1z e) (hl1.at fun o e=>hs₁.extBut _ _ D.l1z e) hx fun h₂ h1₂ hs₂=>wpAny_pure ?_)
    have hTO₂ : IsPair h₂ TO a b:=hs₂.extBut _ _ D.TOi1 (hs₁.extBut _ _ D.TOz hTO)
    refine wpAny_bind (wpAny_seqItems hTO₂ rfl ?_)
    refine wpAny_bind (wpAny_updateSeq_pair hTO₂ fun h₃ hTO₃ hs₃=>?_)
    refine wpAny_bind (wpAny_letGo (wpAny_pure ?_))
    refine wpAny_bind (wpAny_bind (wpAny_onRaise ?_))
    show wpAny _ _ (Builtin.SmallTypes.nextOf (.ref i2) >>= _) _ _ _
    refine wpAny_bind (nextOf_end hh (h2.at fun o e=>hs₃.extBut _ _ D.TOi2.symm (hs₂.extBut _ _ D.i12.symm (hs₁.extBut _ _ D.i2z e)))
      (hl2.at fun o e=>hs₃.extBut _ _ D.l2TO (hs₂.extBut _ _ D.l2i1 (hs₁.extBut _ _ D.l2z e))) hy fun h₄ e hs₄ he=>?_)
    obtain ⟨oe,hoe,hce⟩:=he
    have hz₄ : IsZip h₄ z TI TO .ellipsis:=hs₄ _ _ D.i2z.symm (hs₃.extBut _ _ D.TOz.symm (hs₂.extBut _ _ D.i1z.symm hz₁))
    have hez : e ≠ z:=fun x=>by subst x; rw [hz₄] at hoe; cases hoe; simp at hce
    refine wpAny_setField_rec hz₄ (by simp) fun h₅ _ hs₅=>hE h₅ e (fun c o c1 c2 c3 c4 x=>hs₅.extBut _ _ c1 (hs₄ _ _ c4 (hs₃.extBut _ _ c2 (hs₂.extBut _ _ c3 (hs₁.extBut _ _ c1 x))))) ⟨oe,hs₅.extBut _ _ hez hoe,hce⟩
theorem next_zipG_item {t1 t2 : Bool} {z TI TO i1 i2 l1 l2 : Addr} {k1 k2 : Nat} {xs ys : Array Value} {x y a b : Value} {Q : Option Value -> Shared -> Prop} (D : ZipApart z TI TO i1 i2 l1 l2)
    (hz : IsZip s.heap z TI TO .none) (hTI : IsPair s.heap TI (.ref i1) (.ref i2)) (hTO : IsPair s.heap TO a b)
    (h1 : IterAt t1 s.heap i1 l1 k1) (h2 : IterAt t2 s.heap i2 l2 k2) (hl1 : HasItems t1 s.heap l1 xs) (hl2 : HasItems t2 s.heap l2 ys) (hx : xs[k1]? = some x) (hy : ys[k2]? = some y)
    (hQ : ∀ h',IsZip h' z TI TO (rawInt s.heap.objs.size) -> IsPair h' TO x y -> IterAt t1 h' i1 l1 (k1 + 1) -> IterAt t2 h' i2 l2 (k2 + 1) -> IsPair h' s.heap.objs.size x y -> h'.objs.size = s.heap.objs.size + 1 ->
      (∀ c o,c ≠ z -> c ≠ TO -> c ≠ i1 -> c ≠ i2 -> s.heap.get? c = some o -> h'.get? c = some o) -> Q (some (.ref s.heap.objs.size)) { s with heap:=h' }) :
    wpAny (model prog w) A (pyNext (.ref z)) Q E s:=by
  have hT : s.TypeIs (.ref z) "zip" := ⟨_,hz,rfl⟩
  unfold pyNext
  exact wpAny_bind (wpAny_attempt (wpAny_callSpecial?_slot (name:=Str.ofString "__next__") hT F.slot_zip_next
    (wpAny_call_entry F.slot_zip_next hT F.entry_zip_next
      (zipG_item D hz hTI hTO h1 h2 hl1 hl2 hx hy fun h' a1 a2 a3 a4 a5 a6 a7=>wpAny_pure (hQ h' a1 a2 a3 a4 a5 a6 a7)) (F.args_zip_next_1 _))))
theorem next_zipG_end {t1 t2 : Bool} {z TI TO i1 i2 l1 l2 : Addr} {k1 k2 : Nat} {xs ys : Array Value} {a b : Value} {Q : Option Value -> Shared -> Prop} (hh : A.handled = none) (D : ZipApart z TI TO i1 i2 l1 l2)
    (hz : IsZip s.heap z TI TO .none) (hTI : IsPair s.heap TI (.ref i1) (.ref i2)) (hTO : IsPair s.heap TO a b)
    (h1 : IterAt t1 s.heap i1 l1 k1) (h2 : IterAt t2 s.heap i2 l2 k2) (hl1 : HasItems t1 s.heap l1 xs) (hl2 : HasItems t2 s.heap l2 ys) (hend : xs[k1]? = none \/ ys[k2]? = none)
    (hQ : ∀ h',(∀ c o,c ≠ z -> c ≠ TO -> c ≠ i1 -> c ≠ i2 -> s.heap.get? c = some o -> h'.get? c = some o) -> Q none { s with heap:=h' }) : wpAny (model prog w) A (pyNext (.ref z)) Q E s:=by
  have hT : s.TypeIs (.ref z) "zip" := ⟨_,hz,rfl⟩
  unfold pyNext
  refine wpAny_bind (wpAny_attempt (wpAny_callSpecial?_slot (name:=Str.ofString "__next__") hT F.slot_zip_next
    (wpAny_call_entry F.slot_zip_next hT F.entry_zip_next (zipG_end hh D hz hTI hTO h1 h2 hl1 hl2 hend fun h' e hk he=>?_) (F.args_zip_next_1 _))))
  obtain ⟨o,ho,hc⟩:=he
  refine wpAny_bind (wpAny_isInstance (T := "StopIteration") (b:=true) ⟨o,ho,hc⟩ isSubtype_stop ?_)
  exact wpAny_pure (hQ _ hk)
end
def zH1 (t1 : Bool) (h : Heap) (l1 : Addr) : Heap:=h.push (iterObj t1 l1)
def zH2 (t1 t2 : Bool) (h : Heap) (l1 l2 : Addr) : Heap:=(zH1 t1 h l1).push (iterObj t2 l2)
def zH3 (t1 t2 : Bool) (h : Heap) (l1 l2 : Addr) : Heap:=(zH2 t1 t2 h l1 l2).push { cls:=.type "tuple",data:=.seq #[.ref h.objs.size,.ref (zH1 t1 h l1).objs.size] }
def zH4 (t1 t2 : Bool) (h : Heap) (l1 l2 : Addr) : Heap:=(zH3 t1 t2 h l1 l2).push { cls:=.type "tuple",data:=.seq #[.none,.none] }
def zH5 (t1 t2 : Bool) (h : Heap) (l1 l2 : Addr) : Heap:=(zH4 t1 t2 h l1 l2).push { cls:=.type "zip",data:=.fields #[.none,.bool false,.bool false,.ref (zH2 t1 t2 h l1 l2).objs.size,.ref (zH3 t1 t2 h l1 l2).objs.size] }
theorem meets_zipG_new (t1 t2 : Bool) (l1 l2 : Addr) (xs ys : Array Value) :
    Meets (Builtin.«zip.__new__» ⟨[.type "zip",.ref l1,.ref l2],[]⟩) (fun _ R s=>HasItems t1 s.heap l1 xs /\ HasItems t2 s.heap l2 ys /\
      R (.ok (.ret (.ref (zH4 t1 t2 s.heap l1 l2).objs.size))) { s with heap:=zH5 t1 t2 s.heap l1 l2 }):=
  .of_wp fun prog w A R s h=>by
    obtain ⟨hp,g,d,tk,os⟩:=s; obtain ⟨hl1,hl2,h⟩:=h
    have hsub:=sub_zip
    have hL1 : HasItems t1 (Shared.heap ⟨hp,g,d,tk,os⟩) l1 xs:=hl1
    have hL2 : HasItems t2 (Shared.heap ⟨hp.push (iterObj t1 l1),g,d,tk,os⟩) l2 ys:=hl2.at fun o e=>Heap.get?_push_of_some _ e
    wp_walk using pyIter_seq hL1,pyIter_seq hL2
    exact ⟨_,rfl,h⟩
section
variable {prog : Program} {w : World} {A : Around} {E : Value -> Shared -> Prop} {s : Shared}
theorem call_zipG {t1 t2 : Bool} {l1 l2 : Addr} {xs ys : Array Value} {Q : Value -> Shared -> Prop} (hl1 : HasItems t1 s.heap l1 xs) (hl2 : HasItems t2 s.heap l2 ys)
    (h : ∀ h',IsZip h' (s.heap.objs.size + 4) (s.heap.objs.size + 2) (s.heap.objs.size + 3) .none -> IsPair h' (s.heap.objs.size + 2) (.ref s.heap.objs.size) (.ref (s.heap.objs.size + 1)) ->
      IsPair h' (s.heap.objs.size + 3) .none .none -> IterAt t1 h' s.heap.objs.size l1 0 -> IterAt t2 h' (s.heap.objs.size + 1) l2 0 -> h'.objs.size = s.heap.objs.size + 5 ->
      (∀ c o,s.heap.get? c = some o -> h'.get? c = some o) -> Q (.ref (s.heap.objs.size + 4)) { s with heap:=h' }) :
    wpAny (model prog w) A (call (.type "zip") [.ref l1,.ref l2]) Q E s:=by
  refine callType_new F.called_zip (by decide) (F.typeCall_zip_2 _ _) (F.newCall_zip_2 _ _) (fun obj=>F.args_object_init_3 obj _ _) F.entry_zip_new
    (meets_zipG_new t1 t2 l1 l2 xs ys) ⟨hl1,hl2,?_⟩
  have z1 : (zH1 t1 s.heap l1).objs.size = s.heap.objs.size + 1:=Heap.size_push ..
  have z2 : (zH2 t1 t2 s.heap l1 l2).objs.size = s.heap.objs.size + 2:=by unfold zH2; rw [Heap.size_push,z1]
  have z3 : (zH3 t1 t2 s.heap l1 l2).objs.size = s.heap.objs.size + 3:=by unfold zH3; rw [Heap.size_push,z2]
  have z4 : (zH4 t1 t2 s.heap l1 l2).objs.size = s.heap.objs.size + 4:=by unfold zH4; rw [Heap.size_push,z3]
  have z5 : (zH5 t1 t2 s.heap l1 l2).objs.size = s.heap.objs.size + 5:=by unfold zH5; rw [Heap.size_push,z4]
  have g5 : (zH5 t1 t2 s.heap l1 l2).get? (zH4 t1 t2 s.heap l1 l2).objs.size = some { cls:=.type "zip",data:=.fields #[.none,.bool false,.bool false,.ref (zH2 t1 t2 s.heap l1 l2).objs.size,.ref (zH3 t1 t2 s.heap l1 l2).objs.size] }:=Heap.get?_push_size _ rfl
  have g4 : (zH5 t1 t2 s.heap l1 l2).get? (zH3 t1 t2 s.heap l1 l2).objs.size = some { cls:=.type "tuple",data:=.seq #[.none,.none] }:=Heap.get?_push_of_some _ (Heap.get?_push_size _ rfl)
  have g3 : (zH5 t1 t2 s.heap l1 l2).get? (zH2 t1 t2 s.heap l1 l2).objs.size = some { cls:=.type "tuple",data:=.seq #[.ref s.heap.objs.size,.ref (zH1 t1 s.heap l1).objs.size] }:=Heap.get?_push_of_some _ (Heap.get?_push_of_some _ (Heap.get?_push_size _ rfl))
  have g2 : (zH5 t1 t2 s.heap l1 l2).get? (zH1 t1 s.heap l1).objs.size = some (iterObj t2 l2):=Heap.get?_push_of_some _ (Heap.get?_push_of_some _ (Heap.get?_push_of_some _ (Heap.get?_push_size _ (iterObj_free _ _))))
  have g1 : (zH5 t1 t2 s.heap l1 l2).get? s.heap.objs.size = some (iterObj t1 l1):=Heap.get?_push_of_some _ (Heap.get?_push_of_some _ (Heap.get?_push_of_some _ (Heap.get?_push_of_some _ (Heap.get?_push_size _ (iterObj_free _ _)))))
  show _ /\ _
  rw [z2,z3,z4] at g5
  rw [z1,z2] at g3
  rw [z3] at g4
  rw [z1] at g2
  rw [z4]
  exact ⟨⟨_,g5,rfl⟩,h _ g5 g3 g4 (iterObj_at g1) (iterObj_at g2) z5 fun c o x=>
    Heap.get?_push_of_some _ (Heap.get?_push_of_some _ (Heap.get?_push_of_some _ (Heap.get?_push_of_some _ (Heap.get?_push_of_some _ x))))⟩
end
def SqK (K : PySem.W.Frag) (t : Bool) (H : Hp) (a : Addr) (xs : List V) : Prop:=if t = true then SqT K H a xs else SqL K H a xs
section
variable {X : Cx} {pins : List (Addr × Obj)} {σ : St} {H : Hp} {s : Shared}
theorem Inv.seqK {t : Bool} {a : Addr} {xs : List V} (I : Inv X pins σ H s) (h : SqK X.K t H a xs) : ∃ its : List Value,Vals xs its /\ HasItems t s.heap a its.toArray /\ xs.length <= sizeLine:=by
  cases t
  · obtain ⟨its,r,p,z⟩:=I.list h
    exact ⟨its,r,p.isList,z⟩
  · obtain ⟨its,r,p,z⟩:=I.tuple h
    exact ⟨its,r,p,z⟩
theorem Inv.seqK_inj {t : Bool} {a : Addr} {xs ys : List V} (I : Inv X pins σ H s) (h : SqK X.K t H a xs) (h' : SqK X.K t H a ys) : xs = ys:=by
  cases t
  · exact I.list_inj h h'
  · exact I.tuple_inj h h'
theorem Inv.turnedL {t' : Nat} {its : List Addr} {h' : Heap} (I : Inv X pins σ H s) (k : ∀ b o,b ∉ its -> s.heap.get? b = some o -> h'.get? b = some o) (hf : ∀ b ∈ its,FpOk X pins H b) : Inv X pins σ H { s with heap:=h',toks:=t' }:=by
  have nit : ∀ b u,H b = some u -> b ∉ its:=fun b u e z=>by rw [(hf b z).1] at e; cases e
  refine I.step (g':=s.gens) (d':=s.drawn) (ch:=its) (fun b hb=>?_) (fun b o _ _ hc e _=>k b o hc e) (fun b o _ _ hc e _=>⟨o.slots,k b o hc e⟩) (fun _ _ _ _ n=>n)
    (fun b o hc e=>⟨o,k b o hc e⟩) (fun _ _ e=>e) (fun _ _ _ e=>e) (fun b ps e=>⟨#[],by rw [e]; simp⟩) (fun m hm=>?_) (fun b u e=>?_) I.bare
  · obtain ⟨f0,f1,f2,f3,f4,f5⟩:=hf b hb
    exact ⟨f3,f1,f4,f5⟩
  · obtain ⟨o,es,ep,ho,r⟩:=hm
    exact ⟨o,es,ep,k _ o (fun z=>(hf _ z).2.1 rfl) ho,r⟩
  · refine (I.hok b u e).stay (fun c v hc q=>k c v ?_ q) (fun _ q=>q) fun _ _ q=>q
    rcases hc with z | z
    · rw [z]; exact nit b u e
    · exact nit c _ z
end
def Itz (K : PySem.W.Frag) (t1 t2 : Bool) (a b : Addr) : It:=
  ⟨fun i H=>∃ xs ys x y,SqK K t1 H a xs /\ SqK K t2 H b ys /\ xs[i]? = some x /\ ys[i]? = some y,
   fun i H v H'=>∃ p x y,H p = none /\ v = .ref p /\ H' = upd H p (.tup [x,y]) /\ ∀ xs ys,SqK K t1 H a xs -> SqK K t2 H b ys -> xs[i]? = some x /\ ys[i]? = some y,
   fun i H=>∃ xs ys,SqK K t1 H a xs /\ SqK K t2 H b ys /\ (xs.length <= i \/ ys.length <= i)⟩
def zipSt (t1 t2 : Bool) (z TI TO i1 i2 a b : Addr) (i : Nat) (h : Heap) : Prop:=
  IsZip h z TI TO .none /\ IsPair h TI (.ref i1) (.ref i2) /\ (∃ u v,IsPair h TO u v) /\ IterAt t1 h i1 a i /\ IterAt t2 h i2 b i
theorem pair_cell {a b : Value} : ∀ v,({ cls:=.type "tuple",data:=.seq #[a,b] } : Obj).data ≠ .cell v:=fun v z=>by cases z
theorem turn_zip {P : Program} {w : World} {K : PySem.W.Frag} {elts : List Expr} {k : Nat} {pos : Pos} {t1 t2 : Bool} {z TI TO i1 i2 a b : Addr} (D : ZipApart z TI TO i1 i2 a b) :
    Turn P w K (.Tuple elts k pos) (Itz K t1 t2 a b) [z,TI,TO,i1,i2] z (zipSt t1 t2 z TI TO i1 i2 a b) where
  mem:=by simp
  obj:=fun i h st c hc=>by
    obtain ⟨hz,hTI,⟨u,v,hTO⟩,h1,h2⟩:=st
    simp at hc
    rcases hc with rfl | rfl | rfl | rfl | rfl
    · exact ⟨_,hz,fun v q=>by cases q⟩
    · exact ⟨_,hTI,pair_cell⟩
    · exact ⟨_,hTO,pair_cell⟩
    · exact h1.there
    · exact h2.there
  keep:=fun i h h' st kk=>by
    obtain ⟨hz,hTI,⟨u,v,hTO⟩,h1,h2⟩:=st
    exact ⟨kk z (by simp) _ hz,kk TI (by simp) _ hTI,⟨u,v,kk TO (by simp) _ hTO⟩,h1.at fun o e=>kk i1 (by simp) o e,h2.at fun o e=>kk i2 (by simp) o e⟩
  item:=by
    intro X hP hw hK hc i pins s σ H E I hf st hg
    subst hP hw hK
    obtain ⟨xs,ys,x,y,hq1,hq2,hx,hy⟩:=hg
    obtain ⟨hz,hTI,⟨u,v,hTO⟩,h1,h2⟩:=st
    obtain ⟨its,rv,p,_⟩:=I.seqK hq1
    obtain ⟨its2,rv2,p2,_⟩:=I.seqK hq2
    obtain ⟨ux,hux,rux⟩:=rv.get hx
    obtain ⟨uy,huy,ruy⟩:=rv2.get hy
    refine next_zipG_item D hz hTI hTO h1 h2 p p2 (x:=ux) (y:=uy) (by simpa using hux) (by simpa using huy) fun h' a1 a2 a3 a4 a5 a6 a7=>⟨_,rfl,?_⟩
    refine wpAny_letOwnedTupleGo_zip (s:={ s with heap:=h' }) a1 fun h'' b1 b2=>?_
    have hfr : H s.heap.objs.size = none:=I.fresh
    have zlt : z < s.heap.objs.size:=Heap.lt_size hz
    have TIlt : TI < s.heap.objs.size:=Heap.lt_size hTI
    have TOlt : TO < s.heap.objs.size:=Heap.lt_size hTO
    have i1lt : i1 < s.heap.objs.size:=by obtain ⟨o,e,_⟩:=h1.there; exact Heap.lt_size e
    have i2lt : i2 < s.heap.objs.size:=by obtain ⟨o,e,_⟩:=h2.there; exact Heap.lt_size e
    have I1 : Inv X pins σ H { s with heap:=h'' }:=I.turnedL (t':=s.toks) (its:=[z,TO,i1,i2]) (fun c o hc e=>(b2.2 c (fun q=>hc (by simp [q]))).trans (a7 c o (fun q=>hc (by simp [q])) (fun q=>hc (by simp [q])) (fun q=>hc (by simp [q])) (fun q=>hc (by simp [q])) e))
      fun c hc=>hf c (by simp at hc ⊢; rcases hc with rfl | rfl | rfl | rfl <;> simp)
    have tupAt : IsPair h'' s.heap.objs.size ux uy:=(b2.2 _ (Nat.ne_of_gt zlt)).trans a5
    have fsz : H s.heap.objs.size = none:=hfr
    have I2 : Inv X pins σ (upd H s.heap.objs.size (.tup [x,y])) { s with heap:=h'' }:=by
      refine ⟨I1.ok,I1.os,I1.bare,?_,I1.loc,I1.cell,?_,?_,?_,?_,I1.len⟩
      · have u0:=I1.base
        have old : ∀ c o,X.s₀.heap.get? c = some o -> c ≠ s.heap.objs.size:=fun c o e=>Nat.ne_of_lt (Nat.lt_of_lt_of_le (Heap.lt_size e) I.sz)
        exact ⟨u0.keep,u0.slot,fun c o e n hx=>by rw [upd_ne (old c o e)]; exact u0.free c o e n hx,u0.there,
          fun c ts e=>by have:=u0.tups c ts e; rw [upd_ne (ne_of_none this fsz)]; exact this,
          fun c o ts e=>by have:=u0.frzs c o ts e; rw [upd_ne (ne_of_none this fsz)]; exact this,
          fun c ps e=>by obtain ⟨more,q⟩:=u0.tbls c ps e; exact ⟨more,by rw [upd_ne (ne_of_none q fsz)]; exact q⟩⟩
      · rw [upd_ne (Nat.ne_of_lt I.lt)]; exact I.free
      · intro x' c e
        obtain ⟨v',q⟩:=I.cell x' c e
        rw [upd_ne (Nat.ne_of_lt q.lt)]; exact I.freeC x' c e
      · intro p' hp'
        obtain ⟨e,n,ne,nf,d⟩:=I1.pin p' hp'
        have e0:=(I.pin p' hp').1
        exact ⟨e,by rw [upd_ne (Nat.ne_of_lt (Heap.lt_size e0))]; exact n,ne,nf,d⟩
      · intro c o q
        by_cases hcs : c = s.heap.objs.size
        · subst hcs
          rw [upd_same] at q; cases q
          exact ⟨by simp only [List.length_cons,List.length_nil]; rw [sizeLine_eq]; decide,[ux,uy],.cons rux (.cons ruy .nil),⟨_,tupAt,rfl,0,rfl⟩⟩
        · rw [upd_ne hcs] at q
          exact (I1.hok c o q).stay (fun _ _ _ r=>r) (fun c' r=>by rw [upd_ne (ne_of_none r fsz)]; exact r) fun c' ts r=>by rw [upd_ne (ne_of_none r fsz)]; exact r
    refine ⟨.ref s.heap.objs.size,_,I2,rfl,⟨s.heap.objs.size,x,y,fsz,rfl,rfl,fun xs' ys' q1 q2=>?_⟩,?_,fun c hc=>?_⟩
    · rw [I.seqK_inj q1 hq1,I.seqK_inj q2 hq2]; exact ⟨hx,hy⟩
    · exact ⟨b1,b2.extBut _ _ D.TIz (a7 _ _ D.TIz D.TITO D.TIi1 D.TIi2 hTI),⟨_,_,b2.extBut _ _ D.TOz a2⟩,a3.at fun o e=>b2.extBut _ _ D.i1z e,a4.at fun o e=>b2.extBut _ _ D.i2z e⟩
    · have:=(hf c hc).1
      have clt : c < s.heap.objs.size:=by simp at hc; rcases hc with rfl | rfl | rfl | rfl | rfl <;> assumption
      rw [upd_ne (Nat.ne_of_lt clt)]; exact this
  done:=by
    intro X hP hw hK hc i pins s σ H E I hf st hg
    subst hP hw hK
    obtain ⟨xs,ys,hq1,hq2,hend⟩:=hg
    obtain ⟨hz,hTI,⟨u,v,hTO⟩,h1,h2⟩:=st
    obtain ⟨its,rv,p,_⟩:=I.seqK hq1
    obtain ⟨its2,rv2,p2,_⟩:=I.seqK hq2
    have l1:=rv.length
    have l2:=rv2.length
    refine next_zipG_end (I.ok.hd hc) D hz hTI hTO h1 h2 p p2 (hend.elim (fun h=>.inl (by simp; omega)) fun h=>.inr (by simp; omega)) fun h' kk=>⟨rfl,?_⟩
    exact I.turnedL (t':=s.toks) (its:=[z,TO,i1,i2]) (fun c o hc e=>kk c o (fun q=>hc (by simp [q])) (fun q=>hc (by simp [q])) (fun q=>hc (by simp [q])) (fun q=>hc (by simp [q])) e)
      fun c hc=>hf c (by simp at hc ⊢; rcases hc with rfl | rfl | rfl | rfl <;> simp)
  self:=fun _ _ _ _ _ st h=>wpAny_pyIter_zip st.1 h
section
variable {X : Cx}
def iZip (K : PySem.W.Frag) (t1 t2 : Bool) (ta : TA) : TI:=fun σ H R=>ta σ H fun vs H1=>∃ a b xs ys,vs = [.ref a,.ref b] /\ SqK K t1 H1 a xs /\ SqK K t2 H1 b ys /\ R (Itz K t1 t2 a b) H1
theorem boot_zip : bootBuiltins "zip" = some (.type "zip"):=by decide +kernel
theorem pi_zip (t1 t2 : Bool) {a b : Expr} {ta : TA} {p pos : Pos} {elts : List Expr} {k : Nat} {tp : Pos} (hg : Gl X "zip") (hm : X.mg "zip" = none) (ha : PA X [a,b] ta) (hs : starEach [a,b] X.env = [(false,eval a X.env),(false,eval b X.env)]:=by rfl) (hs2 : starEach [b] X.env = [(false,eval b X.env)]:=by rfl) :
    PI X (.Tuple elts k tp) (.Call (.Name "zip" p) [a,b] [] pos) (iZip X.K t1 t2 ta):=by
  intro pins s σ H R I h
  refine Call_ (ld_blt I hg hm boot_zip (PyProof.Rows.callWith_type1 (thn (ha pos pins s σ H _ I h) fun us s1 ⟨vs,H1,I1,r1,q1⟩=>?_) (by rw [hs,hs2]) (by rw [hs2]; rfl)))
  obtain ⟨a',b',xs,ys,e,q1,q2,q⟩:=q1
  subst e
  cases r1 with
  | cons r rr=>
    cases rr with
    | cons r' rr=>
      cases rr
      cases r
      cases r'
      obtain ⟨its,rv,p1,_⟩:=I1.seqK q1
      obtain ⟨its2,rv2,p2,_⟩:=I1.seqK q2
      refine call_zipG p1 p2 fun h' z1 z2 z3 z4 z5 z6 z7=>?_
      refine wpAny_pyIter_zip (s:={ s1 with heap:=h' }) z1 ?_
      have lta : a' < s1.heap.objs.size:=by obtain ⟨o,e⟩:=p1.there; exact Heap.lt_size e
      have ltb : b' < s1.heap.objs.size:=by obtain ⟨o,e⟩:=p2.there; exact Heap.lt_size e
      have D : ZipApart (s1.heap.objs.size + 4) (s1.heap.objs.size + 2) (s1.heap.objs.size + 3) s1.heap.objs.size (s1.heap.objs.size + 1) a' b':=by
        constructor <;> (intro z; unfold Addr at *; omega)
      refine ⟨_,[s1.heap.objs.size + 4,s1.heap.objs.size + 2,s1.heap.objs.size + 3,s1.heap.objs.size,s1.heap.objs.size + 1],_,_,H1,rfl,I1.kept (t':=s1.toks) z7,turn_zip (t1:=t1) (t2:=t2) D,⟨z1,z2,⟨_,_,z3⟩,z4,z5⟩,fun c hc=>?_,q⟩
      have hc' : s1.heap.objs.size <= c:=by simp at hc; unfold Addr at *; omega
      exact I1.fpOk hc' (I1.hok.fresh hc')
end
end L2
namespace L2
open PySem PySem.Spec PyProof.Rows
theorem walksK {prog : Program} {w : World} {A : Around} (hh : A.handled = none) (t : Bool) (I ax : Addr) (hne : ax ≠ I) (items : Array Value) :
    Walks prog w A I [I,ax] [I] items.size (fun i v=>items[i]? = some v) (fun i h=>IterAt t h I ax i /\ HasItems t h ax items):=by
  cases t
  · exact Walks.list hh I ax hne items
  · exact Walks.tuple hh I ax hne items
theorem getD_at {α : Type} (l : List α) (d : α) {n : Nat} (h : n < l.length) : l.getD n d = l[n]:=by simp [List.getD,h]
theorem preSum_list (ns : List Int) : preSum (fun j=>ns.getD j 0) ns.length = ns.sum:=by
  have key : ∀ (k : Nat),k <= ns.length -> preSum (fun j=>ns.getD j 0) k = (ns.take k).sum:=by
    intro k
    induction k with
    | zero=>intro _; rfl
    | succ k ih=>
      intro hk
      show preSum _ k + ns.getD k 0 = _
      have hlt : k < ns.length:=by omega
      rw [ih (by omega),List.take_succ,List.sum_append,getD_at _ _ hlt,List.getElem?_eq_getElem hlt]
      simp
  rw [key ns.length (Nat.le_refl _),List.take_length]
section
variable {X : Cx} {pins : List (Addr × Obj)} {σ : St} {H : Hp} {s : Shared}
theorem Inv.movedNew {s' : Shared} (I : Inv X pins σ H s) {o : Obj} (m : Moved [s.heap.objs.size] (fun a b=>b = a) { s with heap:=s.heap.push o } s') : Inv X pins σ H s':=by
  obtain ⟨m1,m2,m3,m4,m5⟩:=m
  obtain ⟨h',g',d',t',o'⟩:=s'
  have e1 : g' = s.gens:=m2
  have e2 : d' = s.drawn:=m3
  have e3 : o' = s.os:=m4
  subst e1 e2 e3
  refine I.kept (t':=t') fun b u e=>m1 b u (fun z=>?_) (Heap.get?_push_of_some _ e)
  have : b = s.heap.objs.size:=by simpa using z
  exact absurd (Heap.lt_size e) (by rw [this]; exact Nat.lt_irrefl _)
theorem ints_get {ns : List Int} {its : List Value} (r : Vals (ns.map V.int) its) : ∀ (i : Nat) (v : Value),its.toArray[i]? = some v -> ∃ t,v = Value.int (ns.getD i 0) t:=fun i v e=>by
  have e' : its[i]? = some v:=by simpa using e
  have hi : i < its.length:=(List.getElem?_eq_some_iff.mp e').1
  have hl:=r.length
  rw [List.length_map] at hl
  have hn : (ns.map V.int)[i]? = some (V.int (ns.getD i 0)):=by
    have : i < ns.length:=by omega
    simp [List.getD,this]
  obtain ⟨u,hu,t,ru⟩:=r.get hn
  rw [e'] at hu
  cases hu
  exact ⟨t,ru⟩
theorem bools_get {bs : List Bool} {its : List Value} (r : Vals (bs.map V.bl) its) : ∀ (i : Nat) (v : Value),its.toArray[i]? = some v -> v = Value.bool (bs.getD i false):=fun i v e=>by
  have e' : its[i]? = some v:=by simpa using e
  have hi : i < its.length:=(List.getElem?_eq_some_iff.mp e').1
  have hl:=r.length
  rw [List.length_map] at hl
  have hn : (bs.map V.bl)[i]? = some (V.bl (bs.getD i false)):=by
    have : i < bs.length:=by omega
    simp [List.getD,this]
  obtain ⟨u,hu,ru⟩:=r.get hn
  rw [e'] at hu
  cases hu
  exact ru
theorem iterObj_walk {t : Bool} {l : Addr} {items : Array Value} (hl : HasItems t s.heap l items) : l ≠ s.heap.objs.size /\
    (IterAt t (s.heap.push (iterObj t l)) s.heap.objs.size l 0 /\ HasItems t (s.heap.push (iterObj t l)) l items) /\ ∀ b ∈ [s.heap.objs.size,l],b < (s.heap.push (iterObj t l)).objs.size:=by
  obtain ⟨o,e⟩:=hl.there
  have hlt:=Heap.lt_size e
  refine ⟨Nat.ne_of_lt hlt,⟨iterObj_at (Heap.get?_push_size _ (iterObj_free _ _)),hl.at fun o e=>Heap.get?_push_of_some _ e⟩,fun b hb=>?_⟩
  rw [Heap.size_push]
  simp at hb
  rcases hb with rfl | rfl
  · exact Nat.lt_succ_self _
  · exact Nat.lt_succ_of_lt hlt
end
section
variable {X : Cx}
theorem call_sum (t : Bool) (hc : X.calm = true) : CallR X (.builtin "sum") (fun xs H Q=>∃ (a : Addr) (ns : List Int),xs = [.ref a] /\ SqK X.K t H a (ns.map V.int) /\ Q (.int ns.sum) H):=by
  intro pins s σ H xs us Q I r h
  obtain ⟨a,ns,rfl,hq,q⟩:=h
  obtain ⟨u,rfl,r1⟩:=vals1 r
  cases r1
  obtain ⟨its,rv,p,_⟩:=I.seqK hq
  obtain ⟨w1,w2,w3⟩:=iterObj_walk p
  have hl:=rv.length
  rw [List.length_map] at hl
  refine call_sum_walkAnyS (pyIter_seq p ⟨_,_,_,_,_,_,_,fun j=>ns.getD j 0,rfl,(walksK (A:=X.A.in1) (I.ok.hd hc) t _ a w1 its.toArray).toS,w2,w3,ints_get rv,fun s' t' m=>?_⟩)
  refine ⟨.int ns.sum,H,I.movedNew m,⟨t',?_⟩,q⟩
  rw [List.size_toArray,<- hl,preSum_list]
theorem range_all (bs : List Bool) : (List.range bs.length).all (fun i=>bs.getD i false) = bs.all id:=by
  induction bs with
  | nil=>rfl
  | cons b r ih=>
    rw [List.length_cons,List.range_succ_eq_map,List.all_cons,List.all_map,List.all_cons,<- ih]
    rfl
theorem call_all (t : Bool) (hc : X.calm = true) : CallR X (.builtin "all") (fun xs H Q=>∃ (a : Addr) (bs : List Bool),xs = [.ref a] /\ SqK X.K t H a (bs.map V.bl) /\ Q (.bl (bs.all id)) H):=by
  intro pins s σ H xs us Q I r h
  obtain ⟨a,bs,rfl,hq,q⟩:=h
  obtain ⟨u,rfl,r1⟩:=vals1 r
  cases r1
  obtain ⟨its,rv,p,_⟩:=I.seqK hq
  obtain ⟨w1,w2,w3⟩:=iterObj_walk p
  have hl:=rv.length
  rw [List.length_map] at hl
  refine call_all_walkS (pyIter_seq p ⟨_,_,_,_,_,_,_,fun j=>bs.getD j false,rfl,(walksK (A:=X.A.in1) (I.ok.hd hc) t _ a w1 its.toArray).toS,w2,fun i v s' Q' E' hv hQ=>?_,fun s' m=>?_⟩)
  · rw [bools_get rv i v hv]
    exact wpAny_truthy_bool hQ
  · refine ⟨.bl (bs.all id),H,I.movedNew m,?_,q⟩
    show Value.bool _ = _
    rw [List.size_toArray,<- hl,range_all]
theorem call_maxL (t : Bool) (hc : X.calm = true) : CallR X (.builtin "max") (fun xs H Q=>∃ (a : Addr) (ns : List Int),xs = [.ref a] /\ SqK X.K t H a (ns.map V.int) /\ ns ≠ [] /\ ∀ m,m ∈ ns -> (∀ k,k ∈ ns -> k <= m) -> Q (.int m) H):=by
  intro pins s σ H xs us Q I r h
  obtain ⟨a,ns,rfl,hq,hne,q⟩:=h
  obtain ⟨u,rfl,r1⟩:=vals1 r
  cases r1
  obtain ⟨its,rv,p,_⟩:=I.seqK hq
  obtain ⟨w1,w2,w3⟩:=iterObj_walk p
  have hl:=rv.length
  rw [List.length_map] at hl
  have hpos : 0 < ns.length:=List.length_pos_iff.mpr hne
  refine call_max_walkS (pyIter_seq p ⟨_,_,_,_,_,_,_,_,rfl,(walksK (A:=X.A.in1) (I.ok.hd hc) t _ a w1 its.toArray).toS,w2,w3,by rw [List.size_toArray]; omega,CmpOf.ints_gt (fun j=>ns.getD j 0) (fun i v hv=>ints_get rv i v hv),fun v s' hv m=>?_⟩)
  obtain ⟨t',rfl⟩:=ints_get rv _ _ hv
  obtain ⟨h1,h2⟩:=argBest_gt (fun j=>ns.getD j 0) (its.toArray.size - 1)
  have hb : argBest (fun i j=>decide (ns.getD i 0 > ns.getD j 0)) (its.toArray.size - 1) < ns.length:=by
    have e' : its.toArray.size = ns.length:=by rw [List.size_toArray]; omega
    rw [e'] at h1 ⊢
    exact Nat.lt_of_le_of_lt h1 (by omega)
  refine ⟨.int (ns.getD (argBest (fun i j=>decide (ns.getD i 0 > ns.getD j 0)) (its.toArray.size - 1)) 0),H,I.movedNew m,⟨t',rfl⟩,q _ ?_ fun k hk=>?_⟩
  · rw [getD_at _ _ hb]
    exact List.getElem_mem hb
  · obtain ⟨j,hj,rfl⟩:=List.mem_iff_getElem.mp hk
    have:=h2 j (by rw [List.size_toArray]; omega)
    rw [getD_at _ _ hj] at this
    exact this
theorem call_minL (t : Bool) (hc : X.calm = true) : CallR X (.builtin "min") (fun xs H Q=>∃ (a : Addr) (ns : List Int),xs = [.ref a] /\ SqK X.K t H a (ns.map V.int) /\ ns ≠ [] /\ ∀ m,m ∈ ns -> (∀ k,k ∈ ns -> m <= k) -> Q (.int m) H):=by
  intro pins s σ H xs us Q I r h
  obtain ⟨a,ns,rfl,hq,hne,q⟩:=h
  obtain ⟨u,rfl,r1⟩:=vals1 r
  cases r1
  obtain ⟨its,rv,p,_⟩:=I.seqK hq
  obtain ⟨w1,w2,w3⟩:=iterObj_walk p
  have hl:=rv.length
  rw [List.length_map] at hl
  have hpos : 0 < ns.length:=List.length_pos_iff.mpr hne
  refine call_min_walkS (pyIter_seq p ⟨_,_,_,_,_,_,_,_,rfl,(walksK (A:=X.A.in1) (I.ok.hd hc) t _ a w1 its.toArray).toS,w2,w3,by rw [List.size_toArray]; omega,CmpOf.ints_lt (fun j=>ns.getD j 0) (fun i v hv=>ints_get rv i v hv),fun v s' hv m=>?_⟩)
  obtain ⟨t',rfl⟩:=ints_get rv _ _ hv
  obtain ⟨h1,h2⟩:=argBest_lt (fun j=>ns.getD j 0) (its.toArray.size - 1)
  have hb : argBest (fun i j=>decide (ns.getD i 0 < ns.getD j 0)) (its.toArray.size - 1) < ns.length:=by
    have e' : its.toArray.size = ns.length:=by rw [List.size_toArray]; omega
    rw [e'] at h1 ⊢
    exact Nat.lt_of_le_of_lt h1 (by omega)
  refine ⟨.int (ns.getD (argBest (fun i j=>decide (ns.getD i 0 < ns.getD j 0)) (its.toArray.size - 1)) 0),H,I.movedNew m,⟨t',rfl⟩,q _ ?_ fun k hk=>?_⟩
  · rw [getD_at _ _ hb]
    exact List.getElem_mem hb
  · obtain ⟨j,hj,rfl⟩:=List.mem_iff_getElem.mp hk
    have:=h2 j (by rw [List.size_toArray]; omega)
    rw [getD_at _ _ hj] at this
    exact this
end
theorem drawsK {prog : Program} {w : World} {A : Around} (hh : A.handled = none) (t : Bool) (it l : Addr) (hne : l ≠ it) (items : Array Value) :
    Draws prog w A it [it,l] items.size (fun i v=>items[i]? = some v) (fun i h=>IterAt t h it l i /\ HasItems t h l items) where
  live:=fun _ _ st=>let ⟨o,e,_⟩:=st.1.there; ⟨o,e⟩
  frame:=fun _ _ _ st hk=>⟨st.1.at fun o e=>hk it (by simp) o e,st.2.at fun o e=>hk l (by simp) o e⟩
  item:=fun i s Q E hi st hQ=>by
    refine nextOf_item st.1 st.2 (x:=items[i]) (by simp [hi]) fun h' hit' hs'=>?_
    exact hQ _ h' s.toks (by simp [hi]) ⟨hit',st.2.at fun o e=>hs'.extBut _ _ hne e⟩ hs'
  done:=fun s Q E st hE=>nextOf_end hh st.1 st.2 (by simp) hE
theorem meets_enumT (l : Addr) (items : Array Value) (n : Nat) (dct : Option Addr) (sl : Array (Option Value)) :
    Meets (Builtin.«enumerate.__new__» ⟨[.type "enumerate",.ref l],[]⟩) (fun _ R s=>s.heap.get? l = some { cls:=.type "tuple",dict:=dct,data:=.seq items n,slots:=sl } /\
      R (.ok (.ret (.ref (s.heap.push { cls:=.type "tuple_iterator",data:=.fields #[.ref l,.int 0 0] }).objs.size)))
        { s with heap:=(s.heap.push { cls:=.type "tuple_iterator",data:=.fields #[.ref l,.int 0 0] }).push { cls:=.type "enumerate",data:=.fields #[.none,.bool false,.ref s.heap.objs.size,rawInt 0,.none,.none] } }):=
  .of_wp fun prog w A R s h=>by
    obtain ⟨hp,g,d,tk,os⟩:=s; obtain ⟨hl,h⟩:=h
    have hsub:=sub_enumerate
    have hL : Heap.IsTuple (Shared.heap ⟨hp,g,d,tk,os⟩) l items:=⟨_,hl,rfl,n,rfl⟩
    wp_walk using AutoSeq1.wpAny_loadPart' hl
    refine wpAny_stack_any fun st=>wpAny_pure ?_
    split
    · rename_i c _ _ _ _ _
      cases (c == Value.type "enumerate")
      · wp_walk using AutoSeq1.wpAny_loadPart' hl,wpAny_pyIter_tuple hL
        exact ⟨_,rfl,h⟩
      · wp_walk using AutoSeq1.wpAny_loadPart' hl,wpAny_pyIter_tuple hL
        exact ⟨_,rfl,h⟩
    · wp_walk using AutoSeq1.wpAny_loadPart' hl,wpAny_pyIter_tuple hL
      exact ⟨_,rfl,h⟩
section
variable {prog : Program} {w : World} {A : Around} {E : Value -> Shared -> Prop} {s : Shared}
theorem call_enumT {l : Addr} {items : Array Value} {Q : Value -> Shared -> Prop} (hL : s.heap.IsTuple l items)
    (h : ∀ h',IsEnum h' (s.heap.objs.size + 1) s.heap.objs.size 0 .none -> h'.IsTupleIter s.heap.objs.size l 0 -> h'.objs.size = s.heap.objs.size + 2 ->
      (∀ b o,s.heap.get? b = some o -> h'.get? b = some o) -> Q (.ref (s.heap.objs.size + 1)) { s with heap:=h' }) :
    wpAny (model prog w) A (call (.type "enumerate") [.ref l]) Q E s:=by
  obtain ⟨⟨c,dct,dt,sl⟩,hl,hc,n,hd⟩:=hL
  replace hc : c = .type "tuple" := hc
  replace hd : dt = .seq items n:=hd
  subst hc hd
  refine callType_new F.called_enumerate (by decide) (F.typeCall_enumerate_1 _) (F.newCall_enumerate_1 _) (fun obj=>F.args_object_init_2 obj _) F.entry_enumerate_new
    (meets_enumT l items n dct sl) ⟨hl,?_⟩
  have hz : (s.heap.push { cls:=.type "tuple_iterator",data:=.fields #[.ref l,.int 0 0] }).objs.size = s.heap.objs.size + 1:=Heap.size_push ..
  show _ /\ _
  rw [hz]
  have he : IsEnum ((s.heap.push { cls:=.type "tuple_iterator",data:=.fields #[.ref l,.int 0 0] }).push
      { cls:=.type "enumerate",data:=.fields #[.none,.bool false,.ref s.heap.objs.size,rawInt 0,.none,.none] }) (s.heap.objs.size + 1) s.heap.objs.size 0 .none:=by
    have:=Heap.get?_push_size (s.heap.push { cls:=.type "tuple_iterator",data:=.fields #[.ref l,.int 0 0] })
      (o:={ cls:=.type "enumerate",data:=.fields #[.none,.bool false,.ref s.heap.objs.size,rawInt 0,.none,.none] }) rfl
    rw [hz] at this; exact this
  refine ⟨⟨_,he,rfl⟩,h _ he ⟨_,Heap.get?_push_of_some _ (Heap.get?_push_size _ rfl),rfl,rfl⟩ (by rw [Heap.size_push,hz]) fun b o x=>Heap.get?_push_of_some _ (Heap.get?_push_of_some _ x)⟩
theorem call_enumG {t : Bool} {l : Addr} {items : Array Value} {Q : Value -> Shared -> Prop} (hL : HasItems t s.heap l items)
    (h : ∀ h',IsEnum h' (s.heap.objs.size + 1) s.heap.objs.size 0 .none -> IterAt t h' s.heap.objs.size l 0 -> h'.objs.size = s.heap.objs.size + 2 ->
      (∀ b o,s.heap.get? b = some o -> h'.get? b = some o) -> Q (.ref (s.heap.objs.size + 1)) { s with heap:=h' }) :
    wpAny (model prog w) A (call (.type "enumerate") [.ref l]) Q E s:=by
  cases t
  · exact call_enumerate_list hL h
  · exact call_enumT hL h
end
def Ite (K : PySem.W.Frag) (t : Bool) (a : Addr) : It:=
  ⟨fun i H=>∃ xs x,SqK K t H a xs /\ xs[i]? = some x,
   fun i H v H'=>∃ p x,H p = none /\ v = .ref p /\ H' = upd H p (.tup [.int i,x]) /\ ∀ xs,SqK K t H a xs -> xs[i]? = some x,
   fun i H=>∃ xs,SqK K t H a xs /\ xs.length <= i⟩
theorem Inv.tracks {X : Cx} {pins : List (Addr × Obj)} {σ : St} {H : Hp} {s s1 : Shared} {p : Addr} {xs : List V} {its : List Value} (I : Inv X pins σ H s) (I1 : Inv X pins σ H s1) (hp : s.heap.objs.size <= p) (hn : H p = none) (rv : Vals xs its) (hz : xs.length <= sizeLine)
    (ht : IsTup s1.heap p its.toArray) : Inv X pins σ (upd H p (.tup xs)) s1:=by
  refine ⟨I1.ok,I1.os,I1.bare,?_,I1.loc,I1.cell,?_,?_,?_,?_,I1.len⟩
  · have u0:=I1.base
    have old : ∀ c o,X.s₀.heap.get? c = some o -> c ≠ p:=fun c o e=>Nat.ne_of_lt (Nat.lt_of_lt_of_le (Heap.lt_size e) (Nat.le_trans I.sz hp))
    exact ⟨u0.keep,u0.slot,fun c o e n hx=>by rw [upd_ne (old c o e)]; exact u0.free c o e n hx,u0.there,
      fun c ts e=>by have:=u0.tups c ts e; rw [upd_ne (ne_of_none this hn)]; exact this,
      fun c o ts e=>by have:=u0.frzs c o ts e; rw [upd_ne (ne_of_none this hn)]; exact this,
      fun c ps e=>by obtain ⟨more,q⟩:=u0.tbls c ps e; exact ⟨more,by rw [upd_ne (ne_of_none q hn)]; exact q⟩⟩
  · rw [upd_ne (Nat.ne_of_lt (Nat.lt_of_lt_of_le I.lt hp))]; exact I.free
  · intro x' c e
    obtain ⟨v',q⟩:=I.cell x' c e
    rw [upd_ne (Nat.ne_of_lt (Nat.lt_of_lt_of_le q.lt hp))]; exact I.freeC x' c e
  · intro p' hp'
    obtain ⟨e,n,ne,nf,d⟩:=I1.pin p' hp'
    have e0:=(I.pin p' hp').1
    exact ⟨e,by rw [upd_ne (Nat.ne_of_lt (Nat.lt_of_lt_of_le (Heap.lt_size e0) hp))]; exact n,ne,nf,d⟩
  · intro c o q
    by_cases hcs : c = p
    · subst hcs
      rw [upd_same] at q; cases q
      exact ⟨hz,its,rv,ht⟩
    · rw [upd_ne hcs] at q
      exact (I1.hok c o q).stay (fun _ _ _ r=>r) (fun c' r=>by rw [upd_ne (ne_of_none r hn)]; exact r) fun c' ts r=>by rw [upd_ne (ne_of_none r hn)]; exact r
def enumSt (t : Bool) (e it a : Addr) (i : Nat) (h : Heap) : Prop:=(∃ old,IsEnum h e it i old) /\ IterAt t h it a i
theorem turn_enum {P : Program} {w : World} {K : PySem.W.Frag} {elts : List Expr} {k : Nat} {pos : Pos} {t : Bool} {e it a : Addr} (hei : e ≠ it) (hae : a ≠ e) (hai : a ≠ it) :
    Turn P w K (.Tuple elts k pos) (Ite K t a) [e,it] e (enumSt t e it a) where
  mem:=by simp
  obj:=fun i h st c hc=>by
    obtain ⟨⟨old,he⟩,h1⟩:=st
    simp at hc
    rcases hc with rfl | rfl
    · exact ⟨_,he,fun v q=>by cases q⟩
    · exact h1.there
  keep:=fun i h h' st kk=>by
    obtain ⟨⟨old,he⟩,h1⟩:=st
    exact ⟨⟨old,kk e (by simp) _ he⟩,h1.at fun o q=>kk it (by simp) o q⟩
  item:=by
    intro X hP hw hK hc i pins s σ H E I hf st hg
    subst hP hw hK
    obtain ⟨xs,x,hq1,hx⟩:=hg
    obtain ⟨⟨old,he⟩,h1⟩:=st
    obtain ⟨its,rv,p,_⟩:=I.seqK hq1
    obtain ⟨ux,hux,rux⟩:=rv.get hx
    have hlt : i < its.toArray.size:=by rw [List.size_toArray]; exact (List.getElem?_eq_some_iff.mp hux).1
    refine wpAny_pyNext_enum_itemD (drawsK (A:=X.A.in1) (I.ok.hd hc) t it a hai its.toArray) he ⟨h1,p⟩ hlt hei (by simp; exact ⟨hei,fun z=>hae z.symm⟩) fun x' h' tk hx' ho hs' hT hsz hk=>⟨_,rfl,?_⟩
    have : x' = ux:=by
      have e1 : its[i]? = some x':=by simpa using hx'
      rw [hux] at e1; exact (Option.some.inj e1).symm
    subst this
    refine wpAny_letOwnedTupleGo_enum (s:={ s with heap:=h',toks:=tk + 1 }) ho fun h'' he' hs''=>?_
    have elt : e < s.heap.objs.size:=Heap.lt_size he
    have ilt : it < s.heap.objs.size:=by obtain ⟨o,q,_⟩:=h1.there; exact Heap.lt_size q
    have hfr : H s.heap.objs.size = none:=I.fresh
    have I1 : Inv X pins σ H { s with heap:=h'',toks:=tk + 1 }:=I.turnedL (its:=[e,it]) (fun c o hc' q=>(hs''.2 c (fun z=>hc' (by simp [z]))).trans (hk c o (fun z=>hc' (by simp [z])) (fun z=>hc' (by simp [z])) q)) fun c hc'=>hf c hc'
    have tupAt : h''.get? s.heap.objs.size = some { cls:=.type "tuple",data:=.seq #[.int i tk,x'] }:=(hs''.2 _ (Nat.ne_of_gt elt)).trans hT
    have I2:=I.tracks (xs:=[.int i,x]) (its:=[.int i tk,x']) I1 (Nat.le_refl _) hfr (.cons ⟨tk,rfl⟩ (.cons rux .nil)) (by simp only [List.length_cons,List.length_nil]; rw [sizeLine_eq]; decide) ⟨_,tupAt,rfl,0,rfl⟩
    refine ⟨.ref s.heap.objs.size,_,I2,rfl,⟨s.heap.objs.size,x,hfr,rfl,rfl,fun xs' q1=>?_⟩,?_,fun c hc'=>?_⟩
    · rw [I.seqK_inj q1 hq1]; exact hx
    · exact ⟨⟨x',by simpa using he'⟩,hs'.1.at fun o q=>hs''.extBut _ _ (Ne.symm hei) q⟩
    · have:=(hf c hc').1
      have clt : c < s.heap.objs.size:=by simp at hc'; rcases hc' with rfl | rfl <;> assumption
      rw [upd_ne (Nat.ne_of_lt clt)]; exact this
  done:=by
    intro X hP hw hK hc i pins s σ H E I hf st hg
    subst hP hw hK
    obtain ⟨xs,hq1,hend⟩:=hg
    obtain ⟨⟨old,he⟩,h1⟩:=st
    obtain ⟨its,rv,p,_⟩:=I.seqK hq1
    have hl:=rv.length
    have hT : s.TypeIs (.ref e) "enumerate" := ⟨_,he,rfl⟩
    unfold pyNext
    refine wpAny_bind (wpAny_attempt (wpAny_callSpecial?_slot (name:=Str.ofString "__next__") hT F.slot_enumerate_next
      (wpAny_call_entry F.slot_enumerate_next hT F.entry_enumerate_next ?_ (F.args_enumerate_next_1 _))))
    show wpAny _ _ (field (.ref e) 2 >>= _) _ _ _
    refine wpAny_bind (wpAny_field he rfl (x:=.ref it) rfl ?_)
    refine wpAny_bind (nextOf_end (I.ok.hd hc) h1 p (by simp; omega) fun h' x he' hx'=>?_)
    obtain ⟨o,ho,hc'⟩:=hx'
    refine wpAny_bind (wpAny_isInstance (T := "StopIteration") (b:=true) ⟨o,ho,hc'⟩ isSubtype_stop ?_)
    exact wpAny_pure ⟨rfl,I.turnedL (t':=s.toks) (its:=[it]) (fun c o hc2 q=>he' c o (fun z=>hc2 (by simp [z])) q) fun c hc2=>hf c (by simp at hc2; simp [hc2])⟩
  self:=fun _ _ _ _ _ st h=>by
    obtain ⟨⟨old,he⟩,_⟩:=st
    exact wpAny_pyIter_enum he h
section
variable {X : Cx}
def iEnum (K : PySem.W.Frag) (t : Bool) (ta : TA) : TI:=fun σ H R=>ta σ H fun vs H1=>∃ a xs,vs = [.ref a] /\ SqK K t H1 a xs /\ R (Ite K t a) H1
theorem boot_enumerate : bootBuiltins "enumerate" = some (.type "enumerate"):=by decide +kernel
theorem pi_enum (t : Bool) {a : Expr} {ta : TA} {p pos : Pos} {elts : List Expr} {k : Nat} {tp : Pos} (hg : Gl X "enumerate") (hm : X.mg "enumerate" = none) (ha : PA X [a] ta) (hs : starEach [a] X.env = [(false,eval a X.env)]:=by rfl) :
    PI X (.Tuple elts k tp) (.Call (.Name "enumerate" p) [a] [] pos) (iEnum X.K t ta):=by
  intro pins s σ H R I h
  refine Call_ (ld_blt I hg hm boot_enumerate (PyProof.Rows.callWith_type1 (thn (ha pos pins s σ H _ I h) fun us s1 ⟨vs,H1,I1,r1,q1⟩=>?_) hs rfl))
  obtain ⟨a',xs,e,q1,q⟩:=q1
  subst e
  obtain ⟨u,rfl,r⟩:=vals1 r1
  cases r
  obtain ⟨its,rv,p1,_⟩:=I1.seqK q1
  refine call_enumG p1 fun h' z1 z2 z3 z4=>?_
  refine wpAny_pyIter_enum (s:={ s1 with heap:=h' }) z1 ?_
  have lta : a' < s1.heap.objs.size:=by obtain ⟨o,e⟩:=p1.there; exact Heap.lt_size e
  refine ⟨_,[s1.heap.objs.size + 1,s1.heap.objs.size],_,_,H1,rfl,I1.kept (t':=s1.toks) z4,turn_enum (t:=t) (Nat.ne_of_gt (Nat.lt_succ_self _)) (Nat.ne_of_lt (Nat.lt_succ_of_lt lta)) (Nat.ne_of_lt lta),⟨⟨_,z1⟩,z2⟩,fun c hc=>?_,q⟩
  have hc' : s1.heap.objs.size <= c:=by simp at hc; unfold Addr at *; omega
  exact I1.fpOk hc' (I1.hok.fresh hc')
end
end L2
namespace L2
open PySem PySem.Spec PyProof.Rows
theorem same_new {H : Hp} {a : Addr} {o : HO} (h : H a = none) : Same H (upd H a o):=fun b u e=>by rw [upd_ne (ne_of_none e h)]; exact e
section
variable {K : PySem.W.Frag} {cap : List (Option Nat)} {te : TE} {σ : St} {H1 : Hp} {Q : VK}
abbrev g2 (K : PySem.W.Frag) : TG:=gTup K 2 (gCons (gName 0) (gCons (gName 1) gNil))
end
def clsV : V -> Option Value
  | .ty n=>some (.type n)
  | .ref a=>some (.ref a)
  | _=>none
theorem clsV_rel {c : V} {cv u : Value} (e : clsV c = some cv) (r : RelV c u) : u = cv:=by
  cases c with
  | ty n=>cases e; exact r
  | ref a=>cases e; exact r
  | _=>cases e
section
variable {X : Cx}
theorem call_isinst : CallR X (.builtin "isinstance") (fun xs H Q=>∃ x c cv t b,xs = [x,c] /\ clsV c = some cv /\ TyOf X.K H x t /\ PySem.W.kitOne X.K t cv = some b /\ Q (.bl b) H):=by
  intro pins s σ H xs us Q I r h
  obtain ⟨x,c,cv,t,b,rfl,hc,ty,e,q⟩:=h
  obtain ⟨u,w',rfl,r1,r2⟩:=vals2 r
  rw [clsV_rel hc r2]
  exact isinst_ok I r1 ty e fun tk=>⟨.bl b,H,I.tok tk,rfl,q⟩
theorem boot_isinstance : bootBuiltins "isinstance" = some (.builtin "isinstance"):=by decide +kernel
theorem boot_sum : bootBuiltins "sum" = some (.builtin "sum"):=by decide +kernel
theorem boot_all : bootBuiltins "all" = some (.builtin "all"):=by decide +kernel
theorem boot_max : bootBuiltins "max" = some (.builtin "max"):=by decide +kernel
theorem boot_min : bootBuiltins "min" = some (.builtin "min"):=by decide +kernel
theorem boot_tuple : bootBuiltins "tuple" = some (.type "tuple"):=by decide +kernel
theorem boot_list : bootBuiltins "list" = some (.type "list"):=by decide +kernel
theorem boot_int : bootBuiltins "int" = some (.type "int"):=by decide +kernel
theorem boot_bool : bootBuiltins "bool" = some (.type "bool"):=by decide +kernel
end
section
variable {X : Cx} (K : PySem.W.Frag)
end
end L2
namespace L2
open PySem PySem.Spec PyProof.Rows PySem.W PySem.Builtin.Getset_descriptor
structure XCls (K : Frag) (C : Addr) : Prop where
  cls : (clsIn K C).isSome = true
  ga : findIn K (.ref C) "__getattribute__" = some (some (.builtin "BaseException.__getattribute__"))
  gt : findIn K (.ref C) "__getattr__" = some none
  cl : findIn K (.ref C) "__class__" = some (some (.builtin "object.__class__"))
  gs : specialIn K (.builtin "object.__class__") "__get__" = some (some (.builtin "getset_descriptor.__get__"))
  tk : takesIn K (.builtin "object.__class__") = some true
  ob : mroIn K C (.type "object") = some true
  be : mroIn K C (.type "BaseException") = some true
def IsX (x C : Addr) (h : Heap) : Prop:=∃ ox,h.get? x = some ox /\ ox.cls = .ref C
theorem IsX.type {M : Model} {h : Heap} {x C : Addr} (I : IsX x C h) : Looks M h (typeOf (.ref x)) (.ref C):=by
  obtain ⟨ox,h1,h2⟩:=I
  exact h2 ▸ (Looks.ld h1).andThen .now
theorem xc_find {K : Frag} {M : Model} {h : Heap} {x C : Addr} (X : K.In h) (F : XCls K C) : Looks M h (Builtin.ObjectAttr.find (.ref x) (.ref C) "__class__") (.bind (.builtin "getset_descriptor.__get__") (.builtin "object.__class__")):=by
  have L1:=looks_findIn (M:=M) X F.cl
  have L2 : Looks M h (Builtin.ObjectAttr.getOf (some (.builtin "object.__class__"))) (some (.builtin "getset_descriptor.__get__")):=looks_specialIn X F.gs
  have L3 : Looks M h (Builtin.ObjectAttr.dataDescriptor? (some (.builtin "object.__class__")) (some (.builtin "getset_descriptor.__get__"))) (some (.builtin "getset_descriptor.__get__",.builtin "object.__class__")):=(looks_takesIn X F.tk).andThen .now
  exact L1.andThen (L2.andThen (L3.andThen (Looks.tag .now)))
section
variable {prog : Program} {w : World} {A : Around} {E : Value -> Shared -> Prop} {h : Heap} {g : Array GenState} {d : Drawn} {t : Nat} {os : OsState} {K : Frag} {x C : Addr}
theorem xc_get {tp : Value} {R : Result -> Shared -> Prop} (X : K.In h) (F : XCls K C) (I : IsX x C h) (hq : R (.ok (.ret (.ref C))) ⟨h,g,d,t,os⟩) : codeAny (model prog w) A (.call (.builtin "getset_descriptor.__get__") ⟨[.builtin "object.__class__",.ref x,tp],[]⟩) R ⟨h,g,d,t,os⟩:=by
  have L0:=I.type (M:=model prog w)
  have L1:=looks_mroIn (M:=model prog w) X F.ob
  refine codeAny_call_builtin KF.slot_gs.plain KF.entry_gs (KF.slot_gs.check _ _ _ _ _ _ _ _ KF.type_class (KF.args_gs _ _ _) ?_)
  unfold Builtin.«getset_descriptor.__get__» descrGet
  rw [dga_obj]
  refine wpAny_bind (wpAny_pure ?_)
  unfold descrGetter descrCheckInstance descrNameAndClass isInstance
  simp only [KF.owner_class]
  repeat lk
  refine ⟨Code.quiet_builtin _ (by decide +kernel),codeAny_builtin KF.entry_class ?_⟩
  unfold Builtin.«object.__class__» shownTypeOf
  repeat lk
  exact hq
theorem xc_entry {tk : Tok} {Q : Fin -> Shared -> Prop} (X : K.In h) (F : XCls K C) (I : IsX x C h) (hq : Q (.done (.ret (.ref C))) ⟨h,g,d,t,os⟩) :
    wpAny (model prog w) A (Builtin.«object.__getattribute__» ⟨[.ref x,.str "__class__" tk],[]⟩) Q E ⟨h,g,d,t,os⟩:=by
  have L0:=I.type (M:=model prog w)
  have L1:=xc_find (M:=model prog w) (x:=x) X F
  unfold Builtin.«object.__getattribute__»
  refine wpAny_bind (wpAny_pure ?_)
  refine wpAny_bind (wpAny_pure ?_)
  refine wpAny_bind (L0.at (wpAny_bind (L1.at ?_)))
  show wpAny _ _ (Builtin.ObjectAttr.bindTo (.builtin "getset_descriptor.__get__") (.builtin "object.__class__") (.ref x) (.ref C)) _ _ _
  unfold Builtin.ObjectAttr.bindTo
  refine wpAny_bind (wpAny_holding (wpAny_call (xc_get X F I ?_)))
  exact wpAny_pure hq
theorem xc_check {M : Model} {nameV : Value} {Q : Unit -> Shared -> Prop} (X : K.In h) (F : XCls K C) (I : IsX x C h) (hq : Q () ⟨h,g,d,t,os⟩) : wpAny M A (checkBuiltinCall "BaseException.__getattribute__" ⟨[.ref x,nameV],[]⟩) Q E ⟨h,g,d,t,os⟩:=by
  have hk : builtinKind "BaseException.__getattribute__" = some .slot:=by decide +kernel
  have hsplit : splitId "BaseException.__getattribute__" = some ("BaseException", "__getattribute__"):=by decide +kernel
  have LI : Looks M h (isInstance (.ref x) (.type "BaseException")) true:=(I.type).andThen (looks_mroIn X F.be)
  have ha:=PySem.F.args_bexc_ga (.ref x) nameV
  simp only [checkBuiltinCall,hk,hsplit]
  refine wpAny_bind (LI.at ?_)
  simp only [Bool.not_true,Bool.false_eq_true,if_false]
  exact wpAny_of_eq ha hq
theorem xc_call {tk : Tok} {R : Result -> Shared -> Prop} (X : K.In h) (F : XCls K C) (I : IsX x C h) (hq : R (.ok (.ret (.ref C))) ⟨h,g,d,t,os⟩) :
    codeAny (model prog w) A (.call (.builtin "BaseException.__getattribute__") ⟨[.ref x,.str "__class__" tk],[]⟩) R ⟨h,g,d,t,os⟩:=
  codeAny_call_builtin PySem.F.attr_ValueError.ga.plain PySem.F.entry_bexc_ga (xc_check X F I (xc_entry X F I hq))
theorem xc_by {tk : Tok} {Q : Value -> Shared -> Prop} (X : K.In h) (F : XCls K C) (I : IsX x C h) (hq : Q (.ref C) ⟨h,g,d,t,os⟩) : wpAny (model prog w) A (getAttrBy (.ref x) (.str "__class__" tk) false) Q E ⟨h,g,d,t,os⟩:=by
  have L0:=I.type (M:=model prog w)
  have L1:=looks_findIn (M:=model prog w) X F.ga
  have L2:=looks_findIn (M:=model prog w) X F.gt
  have hx2 : (Value.builtin "BaseException.__getattribute__" == Value.builtin "object.__getattribute__") = false:=by decide +kernel
  have hx1 : (onTheHeap (Value.ref C) && Value.builtin "BaseException.__getattribute__" == Value.builtin "object.__getattribute__") = false:=by rw [hx2]; rfl
  have f3:=PySem.F.attr_ValueError.ga.bind (.ref x)
  unfold getAttrBy
  refine wpAny_holding (wpAny_bind (L0.at (wpAny_bind (L1.at ?_))))
  repeat (any_goals (first | assumption | with_reducible refine L2.at ?_ | wp_step))
  refine xc_call X F I ?_
  repeat (any_goals (first | assumption | wp_step))
theorem xc_attr {Q : Option Value -> Shared -> Prop} (X : K.In h) (F : XCls K C) (I : IsX x C h) (hq : Q (some (.ref C)) ⟨h,g,d,t + 1,os⟩) : wpAny (model prog w) A (getAttr? (.ref x) "__class__") Q E ⟨h,g,d,t,os⟩:=by
  unfold getAttr? getAttrBy?
  repeat (any_goals (first | assumption | with_reducible apply xc_by X F I | wp_step))
end
theorem kitx_exc {K : Frag} {x C : Addr} (F : XCls K C) : KitX K (.ref x) (.ref C) (IsX x C) where
  ty:=fun _ _ _ I=>I.type
  it:=fun _ _ X _=>by
    obtain ⟨cdD,hcD⟩:=Option.isSome_iff_exists.mp F.cls
    unfold clsIn at hcD
    split at hcD
    · rename_i c' d' cd' sl' ho
      intro A' Q' E' s' k q
      unfold isType loadHead
      exact wpAny_bind (wpAny_loadPart (k _ _ (X _ _ ho)) (wpAny_pure q))
    · cases hcD
  ne:=fun h tp dd its n sl X htp=>by
    obtain ⟨cdD,hcD⟩:=Option.isSome_iff_exists.mp F.cls
    refine Bool.eq_false_iff.mpr fun q=>?_
    have e : C = tp:=Value.ref.inj (beq_iff_eq.mp q)
    subst e
    unfold clsIn at hcD
    split at hcD
    · rename_i c' d' cd' sl' ho
      have z:=(X _ _ ho).symm.trans htp
      cases z
    · cases hcD
  ca:=fun {prog w A E Q s} X I k=>by
    obtain ⟨h,g,d,t,os⟩:=s
    exact xc_attr X F I k
end L2
namespace L2
open PySem PySem.Spec PyProof.Rows
theorem ObjOk.there {P : Program} {w : World} {H : Hp} {h : Heap} {a : Addr} {o : HO} (x : ObjOk P w H h a o) : ∃ u,h.get? a = some u:=by
  cases o with
  | lst xs=>obtain ⟨_,_,_,_,e⟩:=x; exact ⟨_,e⟩
  | tup xs=>obtain ⟨_,_,_,o,e,_⟩:=x; exact ⟨o,e⟩
  | dK kvs=>obtain ⟨_,_,_,_,o,_,_,e,_⟩:=x; exact ⟨o,e⟩
  | dT kvs=>obtain ⟨_,_,_,_,o,_,_,e,_⟩:=x; exact ⟨o,e⟩
  | set S n=>obtain ⟨o,_,_,_,e,_⟩:=x; exact ⟨o,e⟩
  | ins C dx fs=>obtain ⟨_,_,_,e,_⟩:=x; exact ⟨_,e⟩
  | own y=>exact x
  | xd fs=>obtain ⟨_,⟨o,_,_,e,_⟩,_⟩:=x; exact ⟨o,e⟩
  | rng lo hi=>obtain ⟨_,_,_,e⟩:=x; exact ⟨_,e⟩
  | frz ob u=>obtain ⟨e,_⟩:=x; exact ⟨_,e⟩
  | tbl ps=>exact ⟨_,x⟩
  | met f y=>exact ⟨_,x⟩
  | ext φ=>exact x.2.1
theorem HOk.none_of {P : Program} {w : World} {H : Hp} {h : Heap} {a : Addr} (x : HOk P w H h) (e : h.get? a = none) : H a = none:=by
  cases q : H a with
  | none=>rfl
  | some o=>
    obtain ⟨u,z⟩:=(x a o q).there
    rw [e] at z
    cases z
structure Fly (P : Program) (w : World) (outer : List Env) (H H' : Hp) (s s' : Shared) (a : Addr) (cls a0 : Value) (B : Heap) : Prop where
  os : s'.os = s.os
  bare : AllBare s'.gens
  fl : Heap.FlyingW B outer a cls a0 s'.heap
  hokB : HOk P w H' B
  keep : ∀ b o,s.heap.get? b = some o -> H b = none -> b ∉ frs outer -> B.get? b = some o
  there : ∀ b o,s.heap.get? b = some o -> b ∉ frs outer -> ∃ o',B.get? b = some o'
  slot : ∀ b o,s.heap.get? b = some o -> b ∈ frs outer -> ∃ sl,s'.heap.get? b = some { o with slots:=sl }
  free : ∀ b o,s.heap.get? b = some o -> H b = none -> H' b = none
  tups : ∀ b xs,H b = some (.tup xs) -> H' b = some (.tup xs)
  frzs : ∀ b o u,H b = some (.frz o u) -> H' b = some (.frz o u)
  tbls : ∀ b ps,H b = some (.tbl ps) -> ∃ more,H' b = some (.tbl (ps ++ more))
section
variable {P : Program} {w : World} {K : PySem.W.Frag} {mg : Str -> Option Value} {base : Heap} {N : List Str} {qual : Str} {scope : Scope} {f : Addr} {cd : Value} {A : Around} {outer : List Env} {s : Shared} {H : Hp} {E : XK}
end
abbrev bmVE : List Value:=[.type "ValueError",.type "Exception",.type "BaseException",.type "object"]
theorem own_obj {K : PySem.W.Frag} {h : Heap} {C : Addr} {bmB : List Value} {newId : String} {x : Str} {mg : Str -> Option Value} (X : K.In h) (m : mg x = some (.ref C)) (q : PySem.W.excIn K C bmB newId = true) : OwnCls x C bmB newId mg h:=by
  refine ⟨m,?_⟩
  unfold PySem.W.excIn at q
  split at q
  · rename_i dd cd sl ho
    split at q
    · rename_i C' bm k0 k1 k2 k3 n k5 hm hs
      simp only [Bool.and_eq_true,beq_iff_eq,Bool.not_eq_true'] at q
      obtain ⟨⟨⟨⟨⟨rfl,rfl⟩,hdel⟩,ht⟩,hok⟩,hni⟩:=q
      obtain ⟨nm,bs,mro,ns,qn,hd,sn,sub,ab,col,del⟩:=cd
      dsimp only at hm hdel hok hni
      subst hm hdel
      have hsl : sl = #[k0,k1,k2,k3,some (.builtin n),k5]:=by
        obtain ⟨l⟩:=sl
        simp only at hs
        rw [hs]
      subst hsl
      exact ⟨bm,ns,nm,qn,bs,hd,sn,sub,ab,col,dd,k0,k1,k2,k3,k5,_,X _ _ ho,.of_isNs (PySem.W.isNs_of_in X hok),PySem.W.nsMap_none_of_in X hok hni,PySem.W.tail_of_in X ht⟩
    · cases q
  · cases q
section
variable {X : Cx}
def tRaise (C : Addr) (E : XK) (t : TA) : TS:=fun _ σ H=>t σ H fun vs H1=>vs.length <= sizeLine /\ E (.ref C) none H1
end
end L2
namespace L2
open PySem PySem.Spec PyProof.Rows
def suiteCx (X : Cx) (a : Addr) : Cx:={ X with A:=X.A.mark (some (.ref a)),calm:=false,xe:=fun _ _=>False }
section
variable {X : Cx} {pins : List (Addr × Obj)} {σ : St} {H H' : Hp} {s s' : Shared} {a C : Addr}
theorem Inv.suite (I : Inv X pins σ H s) (a : Addr) : Inv (suiteCx X a) pins σ H s:=
  ⟨⟨I.ok.mod,I.ok.kind,I.ok.glob,I.ok.blt,I.ok.above,I.ok.inj,I.ok.has,I.ok.cab,fun h=>(by cases h),I.ok.frames,I.ok.stk,I.ok.exf,I.ok.bs,I.ok.bsz,I.ok.noex,I.ok.exfs,I.ok.funs,I.ok.frf⟩,I.os,I.bare,I.base,I.loc,I.cell,I.free,I.freeC,I.pin,I.hok,I.len⟩
theorem Inv.unsuite (ok : X.Ok) (I : Inv (suiteCx X a) pins σ H s) : Inv X pins σ H s:=⟨ok,I.os,I.bare,I.base,I.loc,I.cell,I.free,I.freeC,I.pin,I.hok,I.len⟩
theorem Fly.inv {cls a0 : Value} {B h5 : Heap} (I : Inv X pins σ H s) (F : Fly X.prog X.w X.stack H H' s s' a cls a0 B) (kB : B.StaysIn h5) (sm : s'.heap.UpToSlots h5) : Inv X pins σ H' { s' with heap:=h5 }:=by
  have sl : ∀ b o,s.heap.get? b = some o -> b ∈ frs X.stack -> ∃ sl,h5.get? b = some { o with slots:=sl }:=fun b o q hb=>by
    obtain ⟨sl,z⟩:=F.slot b o q hb
    obtain ⟨_,o',ho',hnf⟩:=I.stack.mem hb
    rw [q] at ho'
    cases ho'
    obtain ⟨sl',z'⟩:=sm b _ z hnf
    exact ⟨sl',z'⟩
  refine I.call' (s':={ s' with heap:=h5 }) (ch:=[]) F.os ⟨fun b o q n hb _=>kB _ _ (F.keep b o q n hb),fun b o q n hb _=>sl b o q hb,fun b o q n _=>F.free b o q n,fun b o q _=>?_,F.tups,F.frzs,F.tbls⟩ (F.hokB.kept kB) F.bare fun b z=>absurd z (by simp)
  by_cases hb : b ∈ frs X.stack
  · obtain ⟨sl,z⟩:=sl b o q hb
    exact ⟨_,z⟩
  · obtain ⟨o',z⟩:=F.there b o q hb
    exact ⟨o',kB _ _ z⟩
theorem Fly.new {cls a0 : Value} {B : Heap} (F : Fly X.prog X.w X.stack H H' s s' a cls a0 B) : s.heap.get? a = none /\ H' a = none:=by
  have hB : B.get? a = none:=F.fl.2.1
  refine ⟨?_,F.hokB.none_of hB⟩
  cases q : s.heap.get? a with
  | none=>rfl
  | some o=>
    by_cases hb : a ∈ frs X.stack
    · obtain ⟨_,o',ho',hnf⟩:=F.fl.2.2.1.mem hb
      obtain ⟨oe,vs,he,_,hd,_⟩:=F.fl.first
      rw [ho'] at he
      cases he
      exact absurd hd (hnf vs)
    · obtain ⟨o',z⟩:=F.there a o q hb
      rw [hB] at z
      cases z
theorem Inv.track {s1 : Shared} {φ : Heap -> Prop} (I0 : Inv X pins σ H s) (hex : ∀ b,b ∉ X.ex) (h0 : s.heap.get? a = none) (I : Inv X pins σ H' s1) (hn : H' a = none) (o : ObjOk X.prog X.w (upd H' a (.ext φ)) s1.heap a (.ext φ)) : Inv X pins σ (upd H' a (.ext φ)) s1:=by
  have ne0 : ∀ b u,s.heap.get? b = some u -> b ≠ a:=fun b u e z=>by rw [z,h0] at e; cases e
  have nes : ∀ b u,X.s₀.heap.get? b = some u -> b ≠ a:=fun b u e=>by
    obtain ⟨u',e'⟩:=I0.base.there b u e (hex b)
    exact ne0 b u' e'
  refine ⟨I.ok,I.os,I.bare,?_,I.loc,I.cell,?_,?_,?_,?_,I.len⟩
  · have u0:=I.base
    exact ⟨u0.keep,u0.slot,fun c o e n hx=>by rw [upd_ne (nes c o e)]; exact u0.free c o e n hx,u0.there,
      fun c ts e=>by have:=u0.tups c ts e; rw [upd_ne (ne_of_none this hn)]; exact this,
      fun c o ts e=>by have:=u0.frzs c o ts e; rw [upd_ne (ne_of_none this hn)]; exact this,
      fun c ps e=>by obtain ⟨more,q⟩:=u0.tbls c ps e; exact ⟨more,by rw [upd_ne (ne_of_none q hn)]; exact q⟩⟩
  · obtain ⟨m,⟨o,_,_,e,_⟩,_⟩:=I0.loc
    rw [upd_ne (ne0 _ _ e)]; exact I.free
  · intro x c e
    obtain ⟨v,o,z,_⟩:=I0.cell x c e
    rw [upd_ne (ne0 _ _ z)]; exact I.freeC x c e
  · intro p hp
    obtain ⟨e,n,ne,nf,d⟩:=I.pin p hp
    exact ⟨e,by rw [upd_ne (ne0 _ _ (I0.pin p hp).1)]; exact n,ne,nf,d⟩
  · intro c u q
    by_cases hc : c = a
    · subst hc
      rw [upd_same] at q; cases q
      exact o
    · rw [upd_ne hc] at q
      exact (I.hok c u q).stay (fun _ _ _ r=>r) (fun c' r=>by rw [upd_ne (ne_of_none r hn)]; exact r) fun c' ts r=>by rw [upd_ne (ne_of_none r hn)]; exact r
theorem Inv.forget {i : Nat} {n : Str} {m : Str -> Option Value} {h' : Heap} {v : Option Value} {tk : Nat} (I : Inv X pins σ H s) (hN : X.N.Nodup) (hi : X.N[i]? = some n) (hl : ∀ (i : Nat) (x : Str) (v : V),X.N[i]? = some x -> σ[i]? = some (some v) -> Vis X.env.scope x -> ∃ u,RelV v u /\ Look X.env s.heap m x u)
    (hn' : h'.Ns X.env.locals (fun x=>if x = n then v else m x)) (hs : Heap.SameBut X.env.locals s.heap h') : Inv X pins (σ.set i none) H { s with heap:=h',toks:=tk }:=by
  have cne:=I.cne
  have tracked : HOk X.prog X.w H h':=I.hok.same I.free hs
  have neL : ∀ b o,X.s₀.heap.get? b = some o -> b ≠ X.env.locals:=fun b o e=>Nat.ne_of_lt (Nat.lt_of_lt_of_le (Heap.lt_size e) I.ok.above)
  refine ⟨I.ok,I.os,I.bare,⟨fun b o e n hb hx=>(hs.2 b (neL b o e)).trans (I.base.keep b o e n hb hx),fun b o e n hb hx=>?_,I.base.free,fun b o e hx=>?_,I.base.tups,I.base.frzs,I.base.tbls⟩,⟨_,hn',fun j y v' e1 e2 e3=>?_⟩,fun y c e=>?_,I.free,I.freeC,fun p hp=>?_,tracked,by simpa using I.len⟩
  · obtain ⟨sl,z⟩:=I.base.slot b o e n hb hx
    exact ⟨sl,(hs.2 b (neL b o e)).trans z⟩
  · obtain ⟨o',z⟩:=I.base.there b o e hx
    exact ⟨o',(hs.2 b (neL b o e)).trans z⟩
  · by_cases hj : j = i
    · subst hj
      rw [hi] at e1; cases e1
      have : j < σ.length:=by have:=(List.getElem?_eq_some_iff.mp e2).1; simpa using this
      rw [List.getElem?_set_self this] at e2
      cases e2
    · rw [List.getElem?_set_ne (Ne.symm hj)] at e2
      obtain ⟨u,r,q⟩:=hl j y v' e1 e2 e3
      refine ⟨u,r,?_⟩
      rcases q with ⟨k,e⟩ | ⟨k,c,e,z⟩
      · refine .inl ⟨k,?_⟩
        have : y ≠ n:=fun e=>hj (nodup_ix hN e1 (e ▸ hi))
        simp [this,e]
      · exact .inr ⟨k,c,e,z.sameBut hs (cne y c e)⟩
  · obtain ⟨w',z⟩:=I.cell y c e
    exact ⟨w',z.sameBut hs (cne y c e)⟩
  · obtain ⟨e,n,ne,nf,d⟩:=I.pin p hp
    exact ⟨(hs.2 p.1 ne).trans e,n,ne,nf,d⟩
end
section
variable {X : Cx}
end
section
variable {X : Cx}
end
end L2
namespace L2
open PySem PySem.Spec PyProof.Rows
theorem tuple_mul_same (l : Addr) (items : Array Value) (n : Nat) (dd : Option Addr) (sl : Array (Option Value)) (t : Tok) :
    Meets (Builtin.«tuple.__mul__» ⟨[.ref l,.int 1 t],[]⟩) (fun _ R s=>s.heap.get? l = some { cls:=.type "tuple",dict:=dd,data:=.seq items n,slots:=sl } /\ R (.ok (.ret (.ref l))) s):=
  .of_wp fun prog w A R s h=>by
    obtain ⟨hp,g,d,tk,os⟩:=s; obtain ⟨hl,h⟩:=h
    wp_walk using wpAny_loadPart' hl
    exact ⟨_,rfl,h⟩
theorem tuple_mul_many (l : Addr) (items : Array Value) (n : Nat) (dd : Option Addr) (sl : Array (Option Value)) (x : Int) (t : Tok) (h1 : ¬ (decide (x < -(2 ^ 63)) || decide (x >= 2 ^ 63)) = true) (h2 : ¬ (items.isEmpty || x == 1) = true) (h3 : ¬ (decide (x <= 0) || items.isEmpty) = true) (h4 : ¬ (items.size : Int) * x > (2 ^ 63 - 1) / 8) (h5 : ¬ Builtin.Tuple.tupleTooMany ((items.size : Int) * x) = true)
    (h6 : ((List.replicate x.toNat items).foldl (fun x1 x2=>x1 ++ x2) #[]).size <= sizeLine) :
    Meets (Builtin.«tuple.__mul__» ⟨[.ref l,.int x t],[]⟩) (fun _ R s=>s.heap.get? l = some { cls:=.type "tuple",dict:=dd,data:=.seq items n,slots:=sl } /\
      R (.ok (.ret (Value.ref s.heap.objs.size))) { s with heap:=s.heap.push { cls:=Value.type "tuple",data:=Data.seq ((List.replicate x.toNat items).foldl (fun x1 x2=>x1 ++ x2) #[]) } }):=
  .of_wp fun prog w A R s h=>by
    obtain ⟨hp,g,d,tk,os⟩:=s; obtain ⟨hl,h⟩:=h
    wp_walk using wpAny_loadPart' hl
    refine wpAny_ite_false (decide_eq_false h1) ?_
    wp_walk using wpAny_loadPart' hl
    refine wpAny_ite_false (decide_eq_false h4) ?_
    wp_walk using wpAny_loadPart' hl
    all_goals first | exact ⟨_,rfl,h⟩ | (refine wpAny_ite_false (decide_eq_false h5) ?_; wp_walk) | skip
    all_goals first | exact ⟨_,rfl,h⟩ | (refine wpAny_ite_false (decide_eq_false (Nat.not_lt.mpr h6)) ?_; wp_walk; exact ⟨_,rfl,h⟩)
theorem int_rmul_tuple (a : Int) (t : Tok) (l : Addr) (items : Array Value) (n : Nat) (dd : Option Addr) (sl : Array (Option Value)) :
    Meets (Builtin.«int.__rmul__» ⟨[.int a t,.ref l],[]⟩) (fun _ R s=>s.heap.get? l = some { cls:=.type "tuple",dict:=dd,data:=.seq items n,slots:=sl } /\ R (.ok (.ret Value.notImplemented)) s):=
  .of_wp fun prog w A R s h=>by obtain ⟨hp,g,d,tk,os⟩:=s; obtain ⟨hl,h⟩:=h; wp_walk using wpAny_loadPart' hl; exact ⟨_,rfl,h⟩
theorem noFill_tuple_mul : fillsNumberSlot (.type "tuple") "mul" = pure false:=
  PySem.fillsNumberSlot_seq (id := "tuple.__mul__") (r:=some (.builtin "tuple.__rmul__")) F.slot_tuple_mul.lookup (by decide +kernel) F.slot_tuple_rmul.lookup (by decide +kernel)
theorem repeat_tuple : seqRepeat? (.type "tuple") = pure (some (.builtin "tuple.__mul__")):=by
  unfold seqRepeat?
  rw [PySem.seqSlot_of (T := "tuple") (name := "__mul__") (id := "tuple.__mul__") F.slot_tuple_mul.lookup (by decide +kernel),PySem.seqSlot_of (T := "tuple") (name := "__rmul__") (id := "tuple.__rmul__") F.slot_tuple_rmul.lookup (by decide +kernel)]
  rfl
section
variable {X : Cx}
def rRepT (K : PySem.W.Frag) : R2:=fun x y H Q=>∃ a k xs,x = .ref a /\ y = .int k /\ SqT K H a xs /\ xs ≠ [] /\ 1 <= k /\ xs.length * k.toNat <= 4096 /\
  (k = 1 -> Q (.ref a) H) /\ (k ≠ 1 -> ∀ p,H p = none -> Q (.ref p) (upd H p (.tup (List.replicate k.toNat xs).flatten)))
theorem op_repT : OpR X (binaryOp .Mult) (rRepT X.K):=by
  intro pins s σ H x y v u Q I rx ry h
  obtain ⟨a,k,xs,rfl,rfl,ha,hne,hk,hz,q1,q2⟩:=h
  cases rx
  obtain ⟨t,rfl⟩:=ry
  obtain ⟨its,r,p1,hs⟩:=I.tuple ha
  obtain ⟨⟨cls,dd,data,sl⟩,ho,hc,n,hd⟩:=id p1
  simp only at hc hd
  subst hc hd
  have hl : its.length = xs.length:=r.length.symm
  have hpos : 0 < its.length:=by rw [hl]; exact List.length_pos_iff.mpr hne
  have hkz : k.toNat <= 4096:=by
    have : 1 * k.toNat <= xs.length * k.toNat:=Nat.mul_le_mul_right _ (by omega)
    omega
  refine wpAny_binaryOp_repeat_ref (T := "tuple") (U := "int") (by decide) ⟨_,ho,rfl⟩ (fun s'=>typeIs_int s' k t) noFill_tuple_mul F.fills_int_mul F.slot_int_rmul repeat_tuple F.slot_int_index.lookup
    (call_meets F.slot_int_rmul (typeIs_int s k t) F.entry_int_rmul (F.args_int_rmul_2 _ _) (int_rmul_tuple k t a its.toArray n dd sl)
      ⟨ho,rfl,⟨_,ho,rfl⟩,?_⟩)
  by_cases h1 : k = 1
  · subst h1
    exact call_meets F.slot_tuple_mul ⟨_,ho,rfl⟩ F.entry_tuple_mul (F.args_tuple_mul_2 _ _) (tuple_mul_same a its.toArray n dd sl t) ⟨ho,⟨.ref a,H,I,rfl,q1 rfl⟩⟩
  · have f0 : List.foldl (fun x1 x2=>x1 ++ x2) #[] (List.replicate k.toNat its.toArray) = (List.replicate k.toNat its).flatten.toArray:=by
      have:=foldl_rep its k.toNat []
      rw [List.nil_append] at this
      exact this
    have hlen : (its.toArray.size : Int) * k = ((its.length * k.toNat : Nat) : Int):=by
      rw [List.size_toArray,Int.natCast_mul,Int.toNat_of_nonneg (by omega)]
    have hfl : (List.replicate k.toNat its).flatten.length <= 4096:=by rw [len_rep,hl,Nat.mul_comm]; exact hz
    have hb : its.length * k.toNat <= 4096:=by rw [hl]; exact hz
    refine call_meets F.slot_tuple_mul ⟨_,ho,rfl⟩ F.entry_tuple_mul (F.args_tuple_mul_2 _ _) (tuple_mul_many a its.toArray n dd sl k t ?_ ?_ ?_ ?_ ?_ ?_) ⟨ho,?_⟩
    · rw [decide_eq_false (by omega),decide_eq_false (by omega)]; exact Bool.false_ne_true
    · intro z
      rcases Bool.or_eq_true_iff.mp z with z | z
      · rw [List.isEmpty_toArray,List.isEmpty_iff] at z; rw [z] at hpos; simp at hpos
      · exact h1 (eq_of_beq z)
    · intro z
      rcases Bool.or_eq_true_iff.mp z with z | z
      · have:=of_decide_eq_true z; omega
      · rw [List.isEmpty_toArray,List.isEmpty_iff] at z; rw [z] at hpos; simp at hpos
    · rw [hlen]; omega
    · rw [hlen]
      have : (4096 : Int) <= sizeLine:=by decide
      show ¬ decide (((its.length * k.toNat : Nat) : Int) > (sizeLine : Int)) = true
      rw [decide_eq_false (by omega)]; exact Bool.false_ne_true
    · rw [f0,List.size_toArray]; exact Nat.le_trans hfl (by decide)
    · rw [f0]
      refine ⟨.ref s.heap.objs.size,_,I.laid (t':=s.toks) (o:=.tup (List.replicate k.toNat xs).flatten) (fun b ob q=>Heap.get?_push_of_some _ q) (Nat.le_refl _) ?_,rfl,q2 h1 _ (I.hok.fresh (Nat.le_refl _))⟩
      exact ⟨by rw [len_rep,Nat.mul_comm]; exact Nat.le_trans hz (by decide),_,r.rep k.toNat,IsTup.new _ _⟩
end
section
variable {X : Cx} {pins : List (Addr × Obj)} {s : Shared} {σ : St} {H : Hp}
open PySem.SeqAt
end
end L2
namespace L2
open PySem PySem.Spec PyProof.Rows
end L2
namespace L2
open PySem PySem.Spec PyProof.Rows
section
variable {K : PySem.W.Frag} {cap : List (Option Nat)} {te : TE} {σ : St} {H1 : Hp} {Q : VK}
end
structure JE (X : Cx) (e : Expr) (t : TE) : Prop where out : PE X e t
structure JA (X : Cx) (es : List Expr) (t : TA) : Prop where out : PA X es t
structure JS (X : Cx) (st : Stmt) (t : TS) : Prop where out : PS X st t
structure JSs (X : Cx) (sts : List Stmt) (t : TS) : Prop where out : PSs X sts t
section
variable {X : Cx} {pos : Pos}
theorem jok {sts : List Stmt} {R : TS -> Prop} (h : ∃ t,JSs X sts t /\ R t) : ∃ t,PSs X sts t /\ R t:=by
  obtain ⟨t,a,b⟩:=h
  exact ⟨t,a.out,b⟩
theorem ja_nil : JA X [] tNil:=⟨pa_nil⟩
theorem ja_cons {e : Expr} {es : List Expr} {te : TE} {t : TA} (ha : JE X e te) (hr : JA X es t) (hs : starEach (e :: es) X.env = (false,eval e X.env) :: starEach es X.env:=by rfl) : JA X (e :: es) (tCons te t):=⟨pa_cons ha.out hr.out hs⟩
theorem je_lst {es : List Expr} {t : TA} (h : JA X es t) : JE X (.List es pos) (tLst t):=⟨pe_lst h.out⟩
theorem je_str {x : Str} {j : Nat} : JE X (.Constant (.str x) j pos) (tC (.str x)):=⟨pe_str⟩
theorem je_op {a b : Expr} {ta tb : TE} {op : Operator} {r : R2} (ho : OpR X (binaryOp op) r) (ha : JE X a ta) (hb : JE X b tb) : JE X (.BinOp a op b pos) (tOp r ta tb):=⟨pe_op ho ha.out hb.out⟩
theorem je_ix {a b : Expr} {ta tb : TE} {r : R2} (hr : IxR X r) (ha : JE X a ta) (hb : JE X b tb) (hs : PlainIx b) : JE X (.Subscript a b pos) (tOp r ta tb):=⟨pe_ix hr ha.out hb.out hs⟩
theorem jss_nil : JSs X [] tNext:=⟨pss_nil⟩
theorem jss_cons {st : Stmt} {rest : List Stmt} {t u : TS} (h1 : JS X st t) (h2 : JSs X rest u) : JSs X (st :: rest) (tSeq t u):=⟨pss_cons h1.out h2.out⟩
theorem jss_one {st : Stmt} {t : TS} (h1 : JS X st t) : JSs X [st] t:=⟨pss_one h1.out⟩
theorem js_if {c : Expr} {a b : List Stmt} {tc : TT} {t u : TS} (hc : PT X c tc) (ha : JSs X a t) (hb : JSs X b u) : JS X (.If c a b pos) (tIfS tc t u):=⟨ps_if hc ha.out hb.out⟩
theorem js_ret {e : Expr} {te : TE} (he : JE X e te) : JS X (.Return (some e) pos) (tRet te):=⟨ps_ret he.out⟩
theorem js_set {i : Nat} {x : Str} {e : Expr} {te : TE} {pos' : Pos} (hN : X.N.Nodup) (hi : X.N[i]? = some x) (hx : Loc X.env.scope x) (he : JE X e te) (hs : swapsWith e (some (.Name x pos')) pos.line X.env = pure false:=by rfl) (hf : X.fn x = true \/ X.env.scope.names.lookup x = some .local:=by first | exact .inl rfl | exact .inr rfl | assumption) :
    JS X (.Assign [.Name x pos'] e pos) (tAsg te (gName i)):=⟨ps_set hN hi hx he.out hs hf⟩
end
end L2
namespace L2
open PySem PySem.Spec PyProof.Rows
theorem cellsFrom_look : ∀ (names : List (Str × NameKind)) (h : Heap) (acc : List (Str × Addr)) (x : Str) (c : Addr),(cellsFrom h.objs.size names acc).lookup x = some c ->
    acc.lookup x = some c \/ ((x,NameKind.cell) ∈ names /\ h.objs.size <= c /\ (pushCells h names).IsCell c none)
  | [],_,_,_,_,e=>.inl e
  | (name,kind) :: r,h,acc,x,c,e=>by
    unfold cellsFrom at e
    unfold pushCells
    by_cases hk : (kind == NameKind.cell) = true
    · rw [if_pos hk] at e ⊢
      have hk' : kind = .cell:=by simpa using hk
      have ih:=cellsFrom_look r (h.push { cls:=.type "cell",data:=.cell none }) ((name,h.objs.size) :: acc) x c (by rw [Heap.size_push]; exact e)
      rw [Heap.size_push] at ih
      rcases ih with z | ⟨z1,z2,z3⟩
      · rw [List.lookup_cons] at z
        cases hb : x == name with
        | true=>
          rw [hb] at z; cases z
          exact .inr ⟨by rw [beq_iff_eq.mp hb,hk']; exact List.mem_cons_self,Nat.le_refl _,⟨_,pushCells_keeps _ _ _ _ (Heap.get?_push_size _ rfl),rfl⟩⟩
        | false=>rw [hb] at z; exact .inl z
      · exact .inr ⟨List.mem_cons_of_mem _ z1,by omega,z3⟩
    · rw [if_neg hk] at e ⊢
      rcases cellsFrom_look r h acc x c e with z | ⟨z1,z2,z3⟩
      · exact .inl z
      · exact .inr ⟨List.mem_cons_of_mem _ z1,z2,z3⟩
theorem cellsFrom_old {x : Str} : ∀ (names : List (Str × NameKind)) (n : Nat) (acc : List (Str × Addr)),(x,NameKind.cell) ∉ names -> (cellsFrom n names acc).lookup x = acc.lookup x
  | [],_,_,_=>rfl
  | (name,kind) :: r,n,acc,h=>by
    unfold cellsFrom
    have hr : (x,NameKind.cell) ∉ r:=fun z=>h (List.mem_cons_of_mem _ z)
    by_cases hk : (kind == NameKind.cell) = true
    · rw [if_pos hk,cellsFrom_old r _ _ hr,List.lookup_cons]
      cases hb : x == name with
      | true=>exact absurd (by rw [beq_iff_eq.mp hb,show kind = .cell by simpa using hk]; exact List.mem_cons_self) h
      | false=>rfl
    · rw [if_neg hk,cellsFrom_old r _ _ hr]
theorem cellsFrom_new {x : Str} {c : Addr} : ∀ (names : List (Str × NameKind)) (n : Nat) (acc : List (Str × Addr)),(x,NameKind.cell) ∈ names -> (cellsFrom n names acc).lookup x = some c -> n <= c
  | [],_,_,h,_=>by cases h
  | (name,kind) :: r,n,acc,h,e=>by
    unfold cellsFrom at e
    by_cases hr : (x,NameKind.cell) ∈ r
    · by_cases hk : (kind == NameKind.cell) = true
      · rw [if_pos hk] at e
        exact Nat.le_of_succ_le (cellsFrom_new r _ _ hr e)
      · rw [if_neg hk] at e
        exact cellsFrom_new r _ _ hr e
    · rcases List.mem_cons.mp h with q | q
      · cases q
        rw [if_pos (by decide),cellsFrom_old r _ _ hr,List.lookup_cons] at e
        simp at e
        exact Nat.le_of_eq e
      · exact absurd q hr
theorem cellsFrom_inj : ∀ (names : List (Str × NameKind)) (n : Nat) (acc : List (Str × Addr)),(∀ x c,acc.lookup x = some c -> c < n) -> (∀ x y c,acc.lookup x = some c -> acc.lookup y = some c -> x = y) ->
    ∀ x y c,(cellsFrom n names acc).lookup x = some c -> (cellsFrom n names acc).lookup y = some c -> x = y
  | [],_,_,_,h=>h
  | (name,kind) :: r,n,acc,h1,h2=>by
    unfold cellsFrom
    by_cases hk : (kind == NameKind.cell) = true
    · rw [if_pos hk]
      refine cellsFrom_inj r (n + 1) _ (fun x c e=>?_) (fun x y c e e'=>?_)
      · rw [List.lookup_cons] at e
        cases hb : x == name with
        | true=>rw [hb] at e; cases e; exact Nat.lt_succ_self _
        | false=>rw [hb] at e; exact Nat.lt_succ_of_lt (h1 x c e)
      · rw [List.lookup_cons] at e e'
        cases hb : x == name with
        | true=>
          rw [hb] at e; cases e
          cases hb' : y == name with
          | true=>rw [beq_iff_eq.mp hb,beq_iff_eq.mp hb']
          | false=>rw [hb'] at e'; exact absurd (h1 y _ e') (Nat.lt_irrefl _)
        | false=>
          rw [hb] at e
          cases hb' : y == name with
          | true=>rw [hb'] at e'; cases e'; exact absurd (h1 x _ e) (Nat.lt_irrefl _)
          | false=>rw [hb'] at e'; exact h2 x y c e e'
    · rw [if_neg hk]
      exact cellsFrom_inj r n acc h1 h2
theorem wpAny_newEnvC {M : Model} {A : Around} {E : Value -> Shared -> Prop} {s : Shared} {scope : Scope} {globals : Addr} {cl : List (Str × Addr)} {qual : Str} {func : Option Addr} {code : Value} {env : Env} {builtins : Addr} {Q : Env -> Shared -> Prop}
    (hQ : Q (newEnv scope s.heap.objs.size globals (cellsFrom (s.heap.objs.size + 1) scope.names cl) qual func code (some env) builtins) { s with heap:=pushCells (s.heap.push { cls:=.type "dict",data:=.dict #[] }) scope.names }) :
    wpAny M A (newFunctionEnv scope globals cl [] qual func code (some env) builtins) Q E s:=by
  simp only [newFunctionEnv,Option.isSome_some,if_true]
  refine wpAny_bind (wpAny_alloc ?_)
  refine wpAny_bind (wpAny_layCells _ (fun name kind cells=>by cases hkc : kind == NameKind.cell <;> simp [hkc]) _ _ _ _ ?_)
  rw [show ({ s with heap:=s.heap.push { cls:=.type "dict",data:=.dict #[] } } : Shared).heap.objs.size = s.heap.objs.size + 1 from Heap.size_push ..]
  refine wpAny_bind ?_
  rw [List.forIn_nil]
  exact wpAny_pure (wpAny_pure hQ)
def compOkC (N N' : List Str) (sc scE : Scope) (cap : List (Option Nat)) : Bool:=
  sc.kind == .function && sc.names.all (fun x=>x.2 != .cell || sc.names.lookup x.1 == some .cell) && sc.names.all (fun x=>x.2 != .local || sc.names.lookup x.1 == some .local) &&
  sc.names.all (fun x=>x.2 != .free || scE.names.lookup x.1 == some .cell || scE.names.lookup x.1 == some .free) && cap.length == N'.length &&
  (List.range cap.length).all (fun i=>match cap[i]? with
    | some (some j)=>(match N'[i]?,N[j]? with | some a,some b=>a == b && sc.names.lookup a == some .free | _,_=>false)
    | _=>true)
structure CompOkC (N N' : List Str) (sc scE : Scope) (cap : List (Option Nat)) : Prop where
  kind : sc.kind = .function
  cel : ∀ x ∈ sc.names,x.2 = .cell -> sc.names.lookup x.1 = some .cell
  loc : ∀ x ∈ sc.names,x.2 = .local -> sc.names.lookup x.1 = some .local
  fre : ∀ x ∈ sc.names,x.2 = .free -> scE.names.lookup x.1 = some .cell \/ scE.names.lookup x.1 = some .free
  len : cap.length = N'.length
  at_ : ∀ (i j : Nat),cap[i]? = some (some j) -> ∃ x,N'[i]? = some x /\ N[j]? = some x /\ sc.names.lookup x = some .free
theorem compOkC.of {N N' : List Str} {sc scE : Scope} {cap : List (Option Nat)} (h : compOkC N N' sc scE cap = true) : CompOkC N N' sc scE cap:=by
  unfold compOkC at h
  simp only [Bool.and_eq_true,List.all_eq_true,beq_iff_eq,Bool.or_eq_true,bne_iff_ne] at h
  obtain ⟨⟨⟨⟨⟨h1,h2⟩,h3⟩,h4⟩,h5⟩,h6⟩:=h
  refine ⟨h1,fun x hx e=>?_,fun x hx e=>?_,fun x hx e=>?_,h5,fun i j e=>?_⟩
  · rcases h2 x hx with z | z
    · exact absurd e z
    · exact z
  · rcases h3 x hx with z | z
    · exact absurd e z
    · exact z
  · rcases h4 x hx with (z | z) | z
    · exact absurd e z
    · exact .inl z
    · exact .inr z
  · have hi : i < cap.length:=(List.getElem?_eq_some_iff.mp e).1
    have:=h6 i (List.mem_range.mpr hi)
    rw [e] at this
    simp only at this
    cases e1 : N'[i]? with
    | none=>rw [e1] at this; cases this
    | some a=>
      cases e2 : N[j]? with
      | none=>rw [e1,e2] at this; cases this
      | some b=>
        rw [e1,e2] at this
        simp only [Bool.and_eq_true,beq_iff_eq] at this
        obtain ⟨rfl,z⟩:=this
        exact ⟨a,rfl,rfl,z⟩
def blkC (X : Cx) (N' : List Str) (sc : Scope) (cl : List (Str × Addr)) (C : Addr) (s0 : Shared) (H0 : Hp) (ex : List Addr) : Cx:=
  { X with N:=N',s₀:=s0,H₀:=H0,env:=compEnvC sc cl C X.env,outer:=X.stack,ex:=ex,fn:=fun x=>sc.names.lookup x == some .cell,pn:=[],xe:=fun _ _=>False }
section
variable {X : Cx}
theorem blk_invC {pins : List (Addr × Obj)} {σ : St} {H : Hp} {s : Shared} {N N' : List Str} {sc scE : Scope} {cap : List (Option Nat)} {cl : List (Str × Addr)} {fp : List Addr}
    (I : Inv X pins σ H s) (hN : X.N = N) (hE : X.env.scope = scE) (ck : CompOkC N N' sc scE cap) (c1 : ∀ x c,cl.lookup x = some c -> X.env.cells.lookup x = some c) (c2 : ∀ x ∈ sc.names,x.2 = .free -> ∃ c,cl.lookup x.1 = some c)
    (hf : ∀ b ∈ fp,FpOk X pins H b) (hfs : ∀ b ∈ fp,b < s.heap.objs.size) :
    Inv (blkC X N' sc (cellsFrom (s.heap.objs.size + 1) sc.names cl) s.heap.objs.size s H fp) [] (capOf cap σ) H { s with heap:=pushCells (s.heap.push { cls:=.type "dict",data:=.dict #[] }) sc.names }:=by
  obtain ⟨h₁,hh₁⟩ : ∃ h₁,pushCells (s.heap.push { cls:=.type "dict",data:=.dict #[] }) sc.names = h₁:=⟨_,rfl⟩
  obtain ⟨cl',hcl'⟩ : ∃ cl',cellsFrom (s.heap.objs.size + 1) sc.names cl = cl':=⟨_,rfl⟩
  rw [hh₁,hcl']
  have keep : ∀ b o,s.heap.get? b = some o -> h₁.get? b = some o:=fun b o e=>by rw [<- hh₁]; exact pushCells_keeps _ _ b o (Heap.get?_push_of_some _ e)
  have hns : h₁.Ns s.heap.objs.size (fun _=>none):=by rw [<- hh₁]; exact (Heap.Ns.new s.heap (.type "dict")).keeps (pushCells_keeps _ _)
  have look : ∀ x c,cl'.lookup x = some c -> cl.lookup x = some c \/ (s.heap.objs.size + 1 <= c /\ h₁.IsCell c none):=fun x c e=>by
    rw [<- hcl'] at e
    have:=cellsFrom_look (sc.names) (s.heap.push { cls:=.type "dict",data:=.dict #[] }) cl x c (by rw [Heap.size_push]; exact e)
    rw [Heap.size_push,hh₁] at this
    rcases this with z | ⟨_,z,z'⟩
    · exact .inl z
    · exact .inr ⟨z,z'⟩
  have cellLt : ∀ x c,cl.lookup x = some c -> c < s.heap.objs.size:=fun x c e=>by
    obtain ⟨v,o,ho,_⟩:=I.cell x c (c1 x c e)
    exact Heap.lt_size ho
  have inj : ∀ x y c,cl'.lookup x = some c -> cl'.lookup y = some c -> x = y:=by
    rw [<- hcl']
    exact cellsFrom_inj _ _ _ (fun x c e=>Nat.lt_succ_of_lt (cellLt x c e)) fun x y c a b=>I.ok.inj x y c (c1 x c a) (c1 y c b)
  have isC : ∀ x,sc.names.lookup x = some .cell -> ∃ c,cl'.lookup x = some c:=fun x e=>by
    rw [<- hcl']
    exact Option.isSome_iff_exists.mp (PySem.W.cellsFrom_some _ _ _ (.inl e))
  have isF : ∀ x,sc.names.lookup x = some .free -> cl'.lookup x = cl.lookup x:=fun x e=>by
    rw [<- hcl']
    refine cellsFrom_old _ _ _ fun z=>?_
    have:=ck.cel _ z rfl
    rw [e] at this; cases this
  have kindOf : ∀ x k,(compEnvC sc cl' s.heap.objs.size X.env).kindOf x = some k -> k = .cell \/ k = .free -> sc.names.lookup x = some .free \/ sc.names.lookup x = some .cell:=fun x k e hk=>by
    have e' : (relabel sc X.env).names.lookup x = some k:=e
    rw [relabel_lookup] at e'
    cases q : sc.names.lookup x with
    | none=>rw [q] at e'; cases e'
    | some k'=>
      rw [q] at e'
      have e'' : (if (k' == NameKind.free && X.env.scope.kind == .function && X.env.kindOf x == some .cell) = true then NameKind.cell else k') = k:=Option.some.inj e'
      by_cases hc : (k' == NameKind.free && X.env.scope.kind == .function && X.env.kindOf x == some .cell) = true
      · simp only [Bool.and_eq_true,beq_iff_eq] at hc
        rw [hc.1.1]; exact .inl rfl
      · rw [if_neg hc] at e''
        subst e''
        rcases hk with z | z
        · rw [z]; exact .inr rfl
        · rw [z]; exact .inl rfl
  have cellAt : ∀ x c,X.env.cells.lookup x = some c -> ∀ v,s.heap.IsCell c v -> h₁.IsCell c v:=fun x c e v ⟨o,ho,hd⟩=>⟨o,keep c o ho,hd⟩
  have Hnew : ∀ c,s.heap.objs.size <= c -> H c = none:=fun c hc=>I.hok.fresh hc
  refine ⟨⟨I.ok.mod,ck.kind,I.ok.glob,I.ok.blt,Nat.le_refl _,inj,fun x hx=>?_,fun x c h1 h2=>?_,I.ok.hd,I.ok.frames,.inl rfl,fun b hb=>?_,I.bs,
    Nat.le_trans I.ok.bsz I.sz,fun b o e hb=>?_,fun b hb hz=>?_,I.stack,I.stkFree⟩,rfl,I.bare,Un.kept keep,⟨_,hns,fun i x v e1 e2 e3=>?_⟩,fun x c e=>?_,Hnew _ (Nat.le_refl _),fun x c e=>?_,fun p hp=>(by cases hp),I.hok.kept keep,?_⟩
  · have hx : (compEnvC sc cl' s.heap.objs.size X.env).kindOf x = some .cell \/ (compEnvC sc cl' s.heap.objs.size X.env).kindOf x = some .free:=hx
    have q : sc.names.lookup x = some .free \/ sc.names.lookup x = some .cell:=by
      rcases hx with z | z
      · exact kindOf x _ z (.inl rfl)
      · exact kindOf x _ z (.inr rfl)
    rcases q with q | q
    · obtain ⟨c,hc⟩:=c2 _ (PySem.mem_of_lookup q) rfl
      exact ⟨c,(isF x q).trans hc⟩
    · exact isC x q
  · have h1 : sc.names.lookup x = some .cell:=by simpa [blkC] using h1
    have h2 : cl'.lookup x = some c:=h2
    rw [<- hcl'] at h2
    exact Nat.le_trans (Nat.le_succ _) (cellsFrom_new _ _ _ (PySem.mem_of_lookup h1) h2)
  · refine ⟨Nat.ne_of_lt (hfs b hb),fun x c e=>?_⟩
    rcases look x c e with z | ⟨z,_⟩
    · exact (hf b hb).2.2.2.2.1 x c (c1 x c z)
    · exact fun q=>absurd (Nat.lt_of_lt_of_le (hfs b hb) (Nat.le_trans (Nat.le_succ _) (q ▸ z))) (Nat.lt_irrefl _)
  · rcases (hf b hb).2.2.2.1 with z | z
    · exact I.ok.noex b o e z
    · exact absurd (Nat.lt_of_lt_of_le (Heap.lt_size e) (Nat.le_trans I.ok.bsz z)) (Nat.lt_irrefl _)
  · rcases List.mem_cons.mp (I.stkSub b hz) with e | z
    · exact (hf b hb).2.1 e
    · exact (hf b hb).2.2.1 z
  · have e1 : N'[i]? = some x:=e1
    have e2 : (capOf cap σ)[i]? = some (some v):=e2
    unfold capOf at e2
    rw [List.getElem?_map] at e2
    cases q : cap[i]? with
    | none=>rw [q] at e2; cases e2
    | some oj=>
      rw [q] at e2
      cases oj with
      | none=>cases e2
      | some j=>
        obtain ⟨y,z1,z2,z3⟩:=ck.at_ i j q
        rw [e1] at z1; cases z1
        have ev : σ[j]? = some (some v):=by
          have e2' : (σ[j]?).join = some v:=Option.some.inj e2
          cases r : σ[j]? with
          | none=>rw [r] at e2'; cases e2'
          | some o=>rw [r] at e2'; exact congrArg some e2'
        obtain ⟨m',hm',hl⟩:=I.loc
        have sK : X.env.scope.names.lookup x = some .cell \/ X.env.scope.names.lookup x = some .free:=by rw [hE]; exact ck.fre _ (PySem.mem_of_lookup z3) rfl
        obtain ⟨u,ru,l⟩:=hl j x v (by rw [hN]; exact z2) ev (sK.elim (fun z=>.inr (.inl z)) fun z=>.inr (.inr z))
        refine ⟨u,ru,?_⟩
        obtain ⟨c,hc⟩:=c2 _ (PySem.mem_of_lookup z3) rfl
        rcases l with ⟨k,_⟩ | ⟨k,c',hc',hcell⟩
        · have k : X.env.scope.names.lookup x = some .local:=k
          rcases sK with z | z <;> (rw [k] at z; cases z)
        · have : c = c':=by
            have q1:=c1 x c hc
            rw [hc'] at q1
            exact (Option.some.inj q1).symm
          subst this
          refine .inr ⟨?_,c,(isF x z3).trans hc,cellAt x c hc' _ hcell⟩
          show (relabel sc X.env).names.lookup x = some .cell \/ (relabel sc X.env).names.lookup x = some .free
          rw [relabel_lookup,z3]
          show some (if _ then NameKind.cell else NameKind.free) = _ \/ some (if _ then NameKind.cell else NameKind.free) = _
          split
          · exact .inl rfl
          · exact .inr rfl
  · rcases look x c e with z | ⟨_,z⟩
    · obtain ⟨v,q⟩:=I.cell x c (c1 x c z)
      exact ⟨v,cellAt x c (c1 x c z) v q⟩
    · exact ⟨_,z⟩
  · rcases look x c e with z | ⟨z,_⟩
    · exact I.freeC x c (c1 x c z)
    · exact Hnew c (by omega)
  · unfold capOf
    show _ = N'.length
    rw [List.length_map]
    exact ck.len
end
end L2
namespace L2
open PySem PySem.Spec PyProof.Rows
section
variable {X : Cx}
end
end L2
namespace PySem
open Sem (wp)
section
variable {prog : Program} {w : World} {A : Around} {E : Value -> Shared -> Prop} {hp : Heap} {gs : Array GenState} {dr : Drawn} {tk : Nat} {sy : OsState}
variable {cn cq : Str} {kC kN : Addr} {bas tl tB : List Value} {hd : Bool} {sns : List Str} {subs : List Value} {abb : Bool} {coll : Option Bool} {dic : Option Addr} {j0 j1 j2 j3 j5 : Option Value} {BB Bn newI nI initI inN : String} {tN : List Value}
end
section
variable {M : Model} {A : Around} {E : Value -> Shared -> Prop} {env : Env}
variable {cn cq : Str} {kC kN : Addr} {bas tl : List Value} {hd : Bool} {sns : List Str} {subs : List Value} {abb : Bool} {coll : Option Bool} {dic : Option Addr} {j0 j1 j2 j3 j5 : Option Value} {newI : String}
end
end PySem
namespace L2
open PySem PySem.Spec PyProof.Rows PySem.W PySem.Builtin.ObjectAttr
section
variable {prog : Program} {w : World} {A : Around} {E : Value -> Shared -> Prop} {s : Shared} {K : Frag} {x C W : Addr} {name : Str} {v : Value}
end
end L2
namespace L2
open PySem PySem.Spec PyProof.Rows PySem.W
section
variable {prog : Program} {w : World} {A : Around} {E : Value -> Shared -> Prop} {s : Shared} {K : Frag} {x C W f : Addr}
end
section
variable {X : Cx} {x C W f : Addr}
end
end L2
namespace PySem
open Sem (wp)
def fld2 (o : Obj) : Option Value:=match o.data with | .fields vs=>vs[2]? | _=>none
theorem fld2_map {o : Obj} {vs : Array Value} {x : Value} (od : o.data = .fields vs) : fld2 (Obj.mapFields (·.setIfInBounds 1 x) o) = fld2 o:=by
  have d:=Obj.data_mapFields od (·.setIfInBounds 1 x)
  unfold fld2
  rw [d,od]
  exact Array.getElem?_setIfInBounds_ne (by decide)
section
variable {M : Model} {A : Around} {E : Value -> Shared -> Prop} {s : Shared} {bs : Heap} {en : Env} {ou : List Env} {L e : Addr} {ob : Obj} {vs : Array Value} {a0 : Value} {Q : Unit -> Shared -> Prop}
theorem entry_dict {head : Value} {nx : Bool} (fr : A.frames = some (en :: ou)) (ff : s.heap.FunFrames bs (en :: ou)) (ef : en.frame = some L) (oe : s.heap.get? e = some ob) (kb : bs.StaysIn s.heap) (ne : bs.get? e = none)
    (od : ob.data = .fields vs) (z1 : 1 < vs.size) (z0 : vs[0]? = some a0)
    (h : ∀ h',Heap.LeftW bs (en :: ou) e ob.cls a0 s.heap h' -> (∃ o',h'.get? e = some o' /\ o'.dict = ob.dict /\ fld2 o' = fld2 ob) -> Q () { s with heap:=h' }) :
    wpAny M A (do
      let a <- frameOf en
      let pl <- entryPlaceOf L nx
      let b <- EntryCells.newEntry head a .none (rawInt L) .none pl
      setField (.ref e) 1 b) (fun _ s'=>wpAny M A (setFlight (.ref e) none) Q E s') E s:=by
  have nf : e ∉ (en :: ou).filterMap (·.frame):=fun m=>by
    obtain ⟨_,o,q,n⟩:=ff.mem m
    rw [oe] at q
    cases q
    exact n vs od
  refine wpAny_bind (wpAny_frameOf_fun fr ff ef fun g gs=>?_)
  refine wpAny_bind (wpAny_entryPlaceOf fun pl hp=>?_)
  unfold EntryCells.newEntry newFields
  refine wpAny_bind (wpAny_newObj_type ?_ (hp.sizeOk5 _ _ _ _ _))
  have ge : g.get? e = some ob:=(gs.2.1 e nf).trans oe
  have gb : bs.StaysIn g:=fun b o q=>(gs.2.1 b fun m=>by
    rw [(ff.mem m).1] at q
    cases q).trans (kb b o q)
  obtain ⟨tb,etb⟩ : ∃ tb : List Value,[head,.ref L,.none,rawInt L,.none] ++ (if pl.isEmpty then List.replicate 6 Value.none else pl) = tb:=⟨_,rfl⟩
  have l5 : 3 < tb.length /\ tb[3]? = some (rawInt L):=by
    rw [<- etb]
    exact ⟨by simp,by simp⟩
  rw [etb]
  have ge2:=Heap.get?_push_of_some (h:=g) { cls:=.type "traceback",dict:=none,data:=.fields tb.toArray } ge
  refine wpAny_setField ge2 od z1 ?_
  have te : g.objs.size ≠ e:=Nat.ne_of_gt (Heap.lt_size ge)
  have d3:=Obj.data_mapFields od (·.setIfInBounds 1 (Value.ref g.objs.size))
  have ge3:=Heap.get?_update_self (Obj.mapFields (·.setIfInBounds 1 (Value.ref g.objs.size))) ge2 (Obj.isFreed_of_fields d3)
  have gt3:=(Heap.get?_update_other (g.push { cls:=.type "traceback",dict:=none,data:=.fields tb.toArray })
    (Obj.mapFields (·.setIfInBounds 1 (Value.ref g.objs.size))) te.symm).trans
    (Heap.get?_push_size g rfl)
  unfold setFlight
  refine wpAny_bind (wpAny_field ge3 d3 (x:=.ref g.objs.size) (by simp [z1]) ?_)
  rw [if_pos (show (Value.ref g.objs.size != Value.none) = true by simp)]
  refine wpAny_setField gt3 rfl (by simpa using l5.1) (h _ ?_ ?_)
  all_goals
    obtain ⟨g3,eg3⟩ : ∃ g3,((g.push { cls:=.type "traceback",dict:=none,data:=.fields tb.toArray }).update e (Obj.mapFields (·.setIfInBounds 1 (Value.ref g.objs.size)))) = g3:=⟨_,rfl⟩
    rw [eg3] at ge3 gt3 ⊢
  · have kp : ∀ b o,b ≠ e -> g.get? b = some o -> (g3.update g.objs.size (Obj.mapFields (·.setIfInBounds 3 ((none : Option Addr).elim Value.none fun f=>rawInt f)))).get? b = some o:=fun b o n q=>by
      rw [Heap.get?_update_other _ _ (Nat.ne_of_gt (Heap.lt_size q)),<- eg3,Heap.get?_update_other _ _ n.symm]
      exact Heap.get?_push_of_some _ q
    have nr : ∀ b o,s.heap.get? b = some o -> (∀ ws,o.data ≠ .fields ws) -> b ≠ e:=fun b o q n z=>by
      rw [z,oe] at q
      cases q
      exact n vs od
    refine ⟨fun b o q=>kp b o (fun z=>by rw [z,ne] at q; cases q) (gb b o q),ff.of_keeps fun b o q n=>?_,?_,fun b o q n=>?_⟩
    · obtain ⟨sl,z⟩:=gs.2.2 b o q
      exact ⟨_,kp b _ (nr b o q n) z,rfl⟩
    · refine ⟨_,_,g.objs.size,_,_,?_,⟨Obj.cls_mapFields _ _,?_⟩,d3,by simp [z1],gb.fresh,te,Heap.get?_update_self _ gt3 (Obj.isFreed_of_fields (Obj.data_mapFields rfl _)),Obj.data_mapFields rfl _,?_⟩
      · rw [Heap.get?_update_other _ _ te]
        exact ge3
      · rw [Array.getElem?_setIfInBounds_ne (by decide)]
        exact z0
      · have:=l5.1
        simp [this]
    · obtain ⟨sl,z⟩:=gs.2.2 b o q
      exact ⟨sl,kp b _ (nr b o q n) z⟩
  · refine ⟨_,(Heap.get?_update_other _ _ te).trans ge3,?_,fld2_map od⟩
    cases ob with
    | mk c d dt sl=>cases dt <;> first | rfl | cases od
theorem leave1_dict (fr : A.frames = some (en :: ou)) (ff : s.heap.FunFrames bs (en :: ou)) (ef : en.frame = some L) (oe : s.heap.get? e = some ob) (kb : bs.StaysIn s.heap) (ne : bs.get? e = none)
    (od : ob.data = .fields vs) (z1 : vs[1]? = some .none) (z0 : vs[0]? = some a0)
    (h : ∀ h',Heap.LeftW bs (en :: ou) e ob.cls a0 s.heap h' -> (∃ o',h'.get? e = some o' /\ o'.dict = ob.dict /\ fld2 o' = fld2 ob) -> Q () { s with heap:=h' }) : wpAny M A (leaving en (.ref e)) Q E s:=by
  unfold leaving noteFrame
  simp only [ef]
  refine wpAny_bind (wpAny_bind (wpAny_field oe od z1 ?_))
  rw [if_neg (by decide)]
  exact entry_dict fr ff ef oe kb ne od (Array.getElem?_eq_some_iff.mp z1).1 z0 h
theorem leave2_dict {cls : Value} {dv : Option Addr} (fr : A.frames = some (en :: ou)) (ef : en.frame = some L) (fl : Heap.FlyingW bs (en :: ou) e cls a0 s.heap) (dd : ∃ o',s.heap.get? e = some o' /\ o'.dict = dv /\ fld2 o' = some .none)
    (h : ∀ h',Heap.FlyingW bs ou e cls a0 h' -> (∃ o',h'.get? e = some o' /\ o'.dict = dv /\ fld2 o' = some .none) -> s.heap.UpToSlots h' -> Q () { s with heap:=h' }) : wpAny M A (leaving en (.ref e)) Q E s:=by
  obtain ⟨kb,ne,ff,oe,ws,T,oT,ts,he,⟨hc,z0⟩,od,z1,nT,Te,hT,dT,z3⟩:=fl
  obtain ⟨o',ho',hdv,hfl⟩:=dd
  rw [he] at ho'
  cases ho'
  unfold leaving noteFrame
  simp only [ef]
  refine wpAny_bind (wpAny_bind (wpAny_field he od z1 ?_))
  rw [if_pos (show (Value.ref T != Value.none) = true by simp)]
  refine wpAny_bind (wpAny_field hT dT z3 ?_)
  rw [if_neg (show ¬ ((Value.none == rawInt L) = true) by simp [rawInt])]
  refine wpAny_bind (wpAny_setField hT dT (Array.getElem?_eq_some_iff.mp z3).1 ?_)
  have ot : ∀ b,b ≠ T -> (s.heap.update T (Obj.mapFields (·.setIfInBounds 3 Value.none))).get? b = s.heap.get? b:=fun b n=>Heap.get?_update_other _ _ n.symm
  have nr : ∀ b o,s.heap.get? b = some o -> (∀ ws,o.data ≠ .fields ws) -> b ≠ T:=fun b o q n z=>by
    rw [z,hT] at q
    cases q
    exact n ts dT
  refine entry_dict fr (ff.of_keeps fun b o q n=>⟨o,(ot b (nr b o q n)).trans q,rfl⟩) ef ((ot e Te.symm).trans he) (fun b o q=>(ot b fun z=>by rw [z,nT] at q; cases q).trans (kb b o q)) ne od (Array.getElem?_eq_some_iff.mp z1).1 z0 fun h' lf d'=>?_
  obtain ⟨k1,⟨_,_,k2⟩,k3,k4⟩:=lf
  rw [hc] at k3
  exact h h' ⟨k1,ne,k2,k3⟩ (d'.imp fun o q=>⟨q.1,q.2.1.trans hdv,q.2.2.trans hfl⟩) fun b o q n=>k4 b o ((ot b (nr b o q n)).trans q) n
theorem note_entry_dict {head : Value} {nx : Bool} (fr : A.frames = some (en :: ou)) (ff : s.heap.FunFrames bs (en :: ou)) (ef : en.frame = some L) (oe : s.heap.get? e = some ob) (kb : bs.StaysIn s.heap) (ne : bs.get? e = none)
    (od : ob.data = .fields vs) (z1 : 1 < vs.size) (z0 : vs[0]? = some a0)
    (h : ∀ h',Heap.NotedW bs (en :: ou) e ob.cls a0 (rawInt L) s.heap h' -> (∃ o',h'.get? e = some o' /\ o'.dict = ob.dict /\ fld2 o' = fld2 ob) -> Q () { s with heap:=h' }) :
    wpAny M A (do
      let a <- frameOf en
      let pl <- entryPlaceOf L nx
      let b <- EntryCells.newEntry head a .none (rawInt L) .none pl
      setField (.ref e) 1 b) Q E s:=by
  have nf : e ∉ (en :: ou).filterMap (·.frame):=fun m=>by
    obtain ⟨_,o,q,n⟩:=ff.mem m
    rw [oe] at q
    cases q
    exact n vs od
  refine wpAny_bind (wpAny_frameOf_fun fr ff ef fun g gs=>?_)
  refine wpAny_bind (wpAny_entryPlaceOf fun pl hp=>?_)
  unfold EntryCells.newEntry newFields
  refine wpAny_bind (wpAny_newObj_type ?_ (hp.sizeOk5 _ _ _ _ _))
  have ge : g.get? e = some ob:=(gs.2.1 e nf).trans oe
  have gb : bs.StaysIn g:=fun b o q=>(gs.2.1 b fun m=>by
    rw [(ff.mem m).1] at q
    cases q).trans (kb b o q)
  obtain ⟨tb,etb⟩ : ∃ tb : List Value,[head,.ref L,.none,rawInt L,.none] ++ (if pl.isEmpty then List.replicate 6 Value.none else pl) = tb:=⟨_,rfl⟩
  have l5 : 3 < tb.length /\ tb[3]? = some (rawInt L):=by
    rw [<- etb]
    exact ⟨by simp,by simp⟩
  rw [etb]
  have ge2:=Heap.get?_push_of_some (h:=g) { cls:=.type "traceback",dict:=none,data:=.fields tb.toArray } ge
  have te : g.objs.size ≠ e:=Nat.ne_of_gt (Heap.lt_size ge)
  have d3:=Obj.data_mapFields od (·.setIfInBounds 1 (Value.ref g.objs.size))
  have ge3:=Heap.get?_update_self (Obj.mapFields (·.setIfInBounds 1 (Value.ref g.objs.size))) ge2 (Obj.isFreed_of_fields d3)
  have gt3:=(Heap.get?_update_other (g.push { cls:=.type "traceback",dict:=none,data:=.fields tb.toArray })
    (Obj.mapFields (·.setIfInBounds 1 (Value.ref g.objs.size))) te.symm).trans
    (Heap.get?_push_size g rfl)
  refine wpAny_setField ge2 od z1 (h _ ?_ ?_)
  · have kp : ∀ b o,b ≠ e -> g.get? b = some o -> ((g.push { cls:=.type "traceback",dict:=none,data:=.fields tb.toArray }).update e (Obj.mapFields (·.setIfInBounds 1 (Value.ref g.objs.size)))).get? b = some o:=fun b o n q=>by
      rw [Heap.get?_update_other _ _ n.symm]
      exact Heap.get?_push_of_some _ q
    have nr : ∀ b o,s.heap.get? b = some o -> (∀ ws,o.data ≠ .fields ws) -> b ≠ e:=fun b o q n z=>by
      rw [z,oe] at q
      cases q
      exact n vs od
    refine ⟨fun b o q=>kp b o (fun z=>by rw [z,ne] at q; cases q) (gb b o q),ff.of_keeps fun b o q n=>?_,?_,fun b o q n=>?_⟩
    · obtain ⟨sl,z⟩:=gs.2.2 b o q
      exact ⟨_,kp b _ (nr b o q n) z,rfl⟩
    · refine ⟨_,_,g.objs.size,_,_,ge3,⟨Obj.cls_mapFields _ _,?_⟩,d3,by simp [z1],gb.fresh,te,gt3,rfl,by simpa using l5.2⟩
      rw [Array.getElem?_setIfInBounds_ne (by decide)]
      exact z0
    · obtain ⟨sl,z⟩:=gs.2.2 b o q
      exact ⟨sl,kp b _ (nr b o q n) z⟩
  · refine ⟨_,ge3,?_,fld2_map od⟩
    cases ob with
    | mk c d dt sl=>cases dt <;> first | rfl | cases od
theorem look_dict {cls : Value} {dv : Option Addr} (fr : A.frames = some (en :: ou)) (ef : en.frame = some L) (fl : Heap.FlyingW bs (en :: ou) e cls a0 s.heap) (dd : ∃ o',s.heap.get? e = some o' /\ o'.dict = dv /\ fld2 o' = some .none)
    (h : ∀ h',Heap.HeldW bs (en :: ou) e cls a0 L h' -> (∃ o',h'.get? e = some o' /\ o'.dict = dv /\ fld2 o' = some .none) -> s.heap.UpToSlots h' -> Q () { s with heap:=h' }) : wpAny M A (noteFrame (.ref e) en) Q E s:=by
  obtain ⟨kb,ne,ff,oe,ws,T,oT,ts,he,⟨hc,z0⟩,od,z1,nT,Te,hT,dT,z3⟩:=fl
  obtain ⟨o',ho',hdv,hfl⟩:=dd
  rw [he] at ho'
  cases ho'
  unfold noteFrame
  simp only [ef]
  refine wpAny_bind (wpAny_field he od z1 ?_)
  rw [if_pos (show (Value.ref T != Value.none) = true by simp)]
  refine wpAny_bind (wpAny_field hT dT z3 ?_)
  rw [if_neg (show ¬ ((Value.none == rawInt L) = true) by simp [rawInt])]
  refine wpAny_bind (wpAny_setField hT dT (Array.getElem?_eq_some_iff.mp z3).1 ?_)
  have ot : ∀ b,b ≠ T -> (s.heap.update T (Obj.mapFields (·.setIfInBounds 3 Value.none))).get? b = s.heap.get? b:=fun b n=>Heap.get?_update_other _ _ n.symm
  have nr : ∀ b o,s.heap.get? b = some o -> (∀ ws,o.data ≠ .fields ws) -> b ≠ T:=fun b o q n z=>by
    rw [z,hT] at q
    cases q
    exact n ts dT
  refine note_entry_dict fr (ff.of_keeps fun b o q n=>⟨o,(ot b (nr b o q n)).trans q,rfl⟩) ef ((ot e Te.symm).trans he) (fun b o q=>(ot b fun z=>by rw [z,nT] at q; cases q).trans (kb b o q)) ne od (Array.getElem?_eq_some_iff.mp z1).1 z0 fun h' nt d'=>?_
  obtain ⟨k1,k2,k3,k4⟩:=nt
  rw [hc] at k3
  exact h h' ⟨k1,ne,k2,k3⟩ (d'.imp fun o q=>⟨q.1,q.2.1.trans hdv,q.2.2.trans hfl⟩) fun b o q n=>k4 b o ((ot b (nr b o q n)).trans q) n
theorem flight_dict {l : List Env} {cls fv : Value} {dv : Option Addr} (kb : bs.StaysIn s.heap) (ne : bs.get? e = none) (ff : s.heap.FunFrames bs l) (tr : s.heap.TracedAtW bs e cls a0 fv) (dd : ∃ o',s.heap.get? e = some o' /\ o'.dict = dv /\ fld2 o' = some .none)
    (h : ∀ h',Heap.FlyingW bs l e cls a0 h' -> (∃ o',h'.get? e = some o' /\ o'.dict = dv /\ fld2 o' = some .none) -> s.heap.UpToSlots h' -> Q () { s with heap:=h' }) : wpAny M A (setFlight (.ref e) none) Q E s:=by
  obtain ⟨oe,ws,T,oT,ts,he,hc,od,z1,nT,Te,hT,dT,z3⟩:=tr
  obtain ⟨o',ho',hdv,hfl⟩:=dd
  have s3:=(Array.getElem?_eq_some_iff.mp z3).1
  have ot : ∀ b,b ≠ T -> (s.heap.update T (Obj.mapFields (·.setIfInBounds 3 ((none : Option Addr).elim Value.none fun f=>rawInt f)))).get? b = s.heap.get? b:=fun b n=>Heap.get?_update_other _ _ n.symm
  have nr : ∀ b o,s.heap.get? b = some o -> (∀ ws,o.data ≠ .fields ws) -> b ≠ T:=fun b o q n z=>by
    rw [z,hT] at q
    cases q
    exact n ts dT
  unfold setFlight
  refine wpAny_bind (wpAny_field he od z1 ?_)
  rw [if_pos (show (Value.ref T != Value.none) = true by simp)]
  refine wpAny_setField hT dT s3 (h _ ⟨fun b o q=>(ot b fun z=>by rw [z,nT] at q; cases q).trans (kb b o q),ne,ff.of_keeps fun b o q n=>⟨o,(ot b (nr b o q n)).trans q,rfl⟩,?_⟩ ⟨o',(ot e Te.symm).trans ho',hdv,hfl⟩ fun b o q n=>⟨o.slots,(ot b (nr b o q n)).trans q⟩)
  exact ⟨oe,ws,T,_,_,(ot e Te.symm).trans he,hc,od,z1,nT,Te,Heap.get?_update_self _ hT (Obj.isFreed_of_fields (Obj.data_mapFields dT _)),Obj.data_mapFields dT _,by simp [s3]⟩
end
end PySem
namespace L2
open PySem PySem.Spec PyProof.Rows
def CXD (P : Program) (w : World) : CXT:=fun outer H s E e s'=>∃ a cls a0 dv H' B,e = Value.ref a /\ Fly P w outer H H' s s' a cls a0 B /\ (∃ o',s'.heap.get? a = some o' /\ o'.dict = dv /\ fld2 o' = some .none) /\ E cls dv H'
theorem pass00D {P : Program} {w : World} {X : Cx} : Passes (CXD P w) X E0:=fun _ _ _ _ _ _ _ h=>by
  obtain ⟨_,_,_,_,_,_,_,_,_,z⟩:=h
  exact z.elim
section
variable {P : Program} {w : World} {K : PySem.W.Frag} {mg : Str -> Option Value} {base : Heap} {N : List Str} {qual : Str} {scope : Scope} {f : Addr} {cd : Value} {A : Around} {outer : List Env} {s : Shared} {H : Hp} {E : XK}
abbrev cxD (P : Program) (w : World) (K : PySem.W.Frag) (mg : Str -> Option Value) (base : Heap) (N : List Str) (qual : Str) (scope : Scope) (f : Addr) (cd : Value) (A : Around) (outer : List Env) (s : Shared) (H : Hp) (E : XK) : Cx:=cxOf (CXD P w) P w K mg base N qual scope f cd A outer s H E
theorem stk_neD {pins : List (Addr × Obj)} {σ : St} {H1 : Hp} {s1 : Shared} (I : Inv (cxD P w K mg base N qual scope f cd A outer s H E) pins σ H1 s1) {b : Addr} {o : Obj} (e : s.heap.get? b = some o) (n : b ∉ frs outer) : b ∉ frs (cxD P w K mg base N qual scope f cd A outer s H E).stack:=fun hb=>by
  rcases List.mem_cons.mp (I.stkSub b hb) with z | z
  · have h1 : b < s.heap.objs.size:=Heap.lt_size e
    have h2 : s.heap.objs.size <= (cxD P w K mg base N qual scope f cd A outer s H E).env.locals:=I.ok.above
    rw [<- z] at h2
    exact absurd (Nat.lt_of_lt_of_le h1 h2) (Nat.lt_irrefl _)
  · exact n z
theorem frs_subD {b : Addr} (h : b ∈ frs outer) : b ∈ frs (cxD P w K mg base N qual scope f cd A outer s H E).stack:=by
  show b ∈ frs (_ :: outer)
  unfold frs at h ⊢
  rw [List.filterMap_cons]
  split
  · exact h
  · exact List.mem_cons_of_mem _ h
theorem raiseD {pins : List (Addr × Obj)} {σ : St} {H1 : Hp} {s1 : Shared} {hx : Heap} {e C t : Addr} {dv : Option Addr} (I : Inv (cxD P w K mg base N qual scope f cd A outer s H E) pins σ H1 s1)
    (hk : ∀ b o,b ≠ e -> s1.heap.get? b = some o -> hx.get? b = some o) (he1 : ∀ o,s1.heap.get? e = some o -> ∃ vs,o.data = .fields vs) (new : s.heap.get? e = none) (hH : H1 e = none)
    (oe : hx.get? e = some { cls:=.ref C,dict:=dv,data:=.fields #[.ref t,.none,.none,.none,.bool false,.none] }) (hE : E (.ref C) dv H1) :
    (cxD P w K mg base N qual scope f cd A outer s H E).xe (.ref e) { s1 with heap:=hx }:=by
  have hin : ∀ en ∈ (cxD P w K mg base N qual scope f cd A outer s H E).stack,∀ b,en.frame = some b -> b ∈ e :: frs (cxD P w K mg base N qual scope f cd A outer s H E).stack:=fun en he b hb=>List.mem_cons_of_mem _ (List.mem_filterMap.mpr ⟨en,he,hb⟩)
  have ff:=PySem.W.funFrames_hide I.stack hin
  have nee : ∀ b o,s1.heap.get? b = some o -> (∀ vs,o.data ≠ .fields vs) -> b ≠ e:=fun b o q n z=>by
    subst z
    obtain ⟨vs,d⟩:=he1 o q
    exact n vs d
  have hid : (PySem.W.hideAll s1.heap (e :: frs (cxD P w K mg base N qual scope f cd A outer s H E).stack)).get? e = none:=PySem.W.hideAll_none _ List.mem_cons_self
  have kb : (PySem.W.hideAll s1.heap (e :: frs (cxD P w K mg base N qual scope f cd A outer s H E).stack)).StaysIn hx:=fun b o q=>hk b o (fun z=>by rw [z,hid] at q; cases q) (PySem.W.of_hideAll _ q)
  show wpAny (model P w) _ (leaving _ (.ref e)) _ _ _
  refine leave1_dict (bs:=PySem.W.hideAll s1.heap (e :: frs (cxD P w K mg base N qual scope f cd A outer s H E).stack)) (a0:=.ref t) (s:={ s1 with heap:=hx }) I.ok.frames (ff.of_keeps fun b o q n=>⟨o,hk b o (nee b o q n) q,rfl⟩) rfl oe kb hid rfl rfl rfl fun h2 lf dd=>?_
  obtain ⟨k1,⟨_,_,k2⟩,k3,k4⟩:=lf
  have noex : ∀ b : Addr,b ∉ (cxD P w K mg base N qual scope f cd A outer s H E).ex:=fun b z=>absurd (show b ∈ ([] : List Addr) from z) (by simp)
  have nse : ∀ b o,s.heap.get? b = some o -> b ≠ e:=fun b o q z=>by rw [z,new] at q; cases q
  have out : ∀ b o,s.heap.get? b = some o -> b ∉ frs outer -> b ∉ e :: frs (cxD P w K mg base N qual scope f cd A outer s H E).stack:=fun b o q n m=>by
    rcases List.mem_cons.mp m with z | z
    · exact nse b o q z
    · exact stk_neD I q n z
  refine ⟨e,.ref C,.ref t,dv,H1,_,rfl,⟨I.os,I.bare,⟨k1,hid,k2,k3⟩,fun b u q=>?_,fun b o q n hb=>?_,fun b o q hb=>?_,fun b o q hb=>?_,fun b o q n=>I.base.free b o q n (noex b),I.base.tups,I.base.frzs,I.base.tbls⟩,dd,hE⟩
  · have ne : ∀ c v,H1 c = some v -> c ∉ e :: frs (cxD P w K mg base N qual scope f cd A outer s H E).stack:=fun c v z m=>by
      rcases List.mem_cons.mp m with m | m
      · rw [m,hH] at z; cases z
      · rw [I.stkFree c m] at z; cases z
    refine (I.hok b u q).stay (fun c v hc r=>PySem.W.hideAll_get _ r ?_) (fun _ r=>r) fun _ _ r=>r
    rcases hc with rfl | hc
    · exact ne c u q
    · exact ne c _ hc
  · exact PySem.W.hideAll_get _ (I.base.keep b o q n hb (noex b)) (out b o q hb)
  · obtain ⟨o',z⟩:=I.base.there b o q (noex b)
    exact ⟨o',PySem.W.hideAll_get _ z (out b o q hb)⟩
  · obtain ⟨sl,z⟩:=I.base.slot b o q (I.ok.frf b hb) hb (noex b)
    obtain ⟨_,o',ho',hnf⟩:=I.ok.funs.mem hb
    have ho2 : s.heap.get? b = some o':=ho'
    rw [q] at ho2
    cases ho2
    obtain ⟨sl',z'⟩:=k4 b _ (hk b _ (nse b o q) z) hnf
    exact ⟨sl',z'⟩
theorem pass_onD : Passes (CXD P w) (cxD P w K mg base N qual scope f cd A outer s H E) E:=by
  intro pins σ H1 s1 e s' I h
  obtain ⟨a,cls,a0,dv,H',B,rfl,F,dd,hE⟩:=h
  show wpAny (model P w) _ (leaving _ (.ref a)) _ _ _
  have noex : ∀ b : Addr,b ∉ (cxD P w K mg base N qual scope f cd A outer s H E).ex:=fun b z=>absurd (show b ∈ ([] : List Addr) from z) (by simp)
  refine leave2_dict I.ok.frames rfl F.fl dd fun h2 x1 d2 x2=>?_
  refine ⟨a,cls,a0,dv,H',B,rfl,⟨F.os.trans I.os,F.bare,x1,F.hokB,fun b o q n hb=>?_,fun b o q hb=>?_,fun b o q hb=>?_,fun b o q n=>?_,fun b xs q=>F.tups b xs (I.base.tups b xs q),fun b o u q=>F.frzs b o u (I.base.frzs b o u q),fun b ps q=>?_⟩,d2,hE⟩
  · exact F.keep b o (I.base.keep b o q n hb (noex b)) (I.base.free b o q n (noex b)) (stk_neD I q hb)
  · obtain ⟨o',z⟩:=I.base.there b o q (noex b)
    exact F.there b o' z (stk_neD I q hb)
  · obtain ⟨sl,z⟩:=I.base.slot b o q (I.ok.frf b hb) hb (noex b)
    obtain ⟨_,o',ho',hnf⟩:=I.ok.funs.mem hb
    have ho2 : s.heap.get? b = some o':=ho'
    rw [q] at ho2
    cases ho2
    obtain ⟨sl',z'⟩:=F.slot b _ z (frs_subD hb)
    obtain ⟨sl2,z2⟩:=x2 b _ z' hnf
    exact ⟨sl2,z2⟩
  · obtain ⟨o',z⟩:=I.base.there b o q (noex b)
    exact F.free b o' z (I.base.free b o q n (noex b))
  · obtain ⟨m1,e1⟩:=I.base.tbls b ps q
    obtain ⟨m2,e2⟩:=F.tbls b _ e1
    exact ⟨m1 ++ m2,by rw [e2,Array.append_assoc]⟩
end
section
variable {X : Cx}
def RaiseD (X : Cx) (E : XK) : Prop:=∀ (pins : List (Addr × Obj)) (σ : St) (H0 H1 : Hp) (s0 s1 : Shared) (hx : Heap) (e C t : Addr) (dv : Option Addr),Inv X pins σ H0 s0 -> s0.heap.get? e = none -> Inv X pins σ H1 s1 -> (∀ b o,b ≠ e -> s1.heap.get? b = some o -> hx.get? b = some o) ->
  (∀ o,s1.heap.get? e = some o -> ∃ vs,o.data = .fields vs) -> H1 e = none -> hx.get? e = some { cls:=.ref C,dict:=dv,data:=.fields #[.ref t,.none,.none,.none,.bool false,.none] } -> E (.ref C) dv H1 -> X.xe (.ref e) { s1 with heap:=hx }
theorem ps_raiseD {x : Str} {C : Addr} {e : Expr} {t : TA} {E : XK} {np cpos pos : Pos} (hcalm : X.calm = true) (RO : RaiseD X E) (hg : Gl X x) (hm : X.mg x = some (.ref C)) (q : PySem.W.excIn X.K C bmVE "ValueError.__new__" = true) (ha : PA X [e] t)
    (hdb : (x == ("__debug__" : Str)) = false:=by decide) (he : starEach [e] X.env = [(false,eval e X.env)]:=by rfl) : PS X (.Raise (some (.Call (.Name x np) [e] [] cpos)) none pos) (tRaise C E t):=by
  intro pins s σ H D I h
  obtain ⟨tl,N,nm,qn,bs,hdct,sn,sub,ab,col,dd,k0,k1,k2,k3,k5,mN,hC,hN,hni,T⟩:=(own_obj I.mod.kin hm q).obj
  refine wpAny_Raise_call_subU (C:=C) (nm:=nm) (q:=qn) (N:=N) (bs:=bs) (bm:=tl) (hdct:=hdct) (sn:=sn) (sub:=sub) (ab:=ab) (col:=col) (dd:=dd) (k0:=k0) (k1:=k1) (k2:=k2) (k3:=k3) (k5:=k5)
    PySem.F.excBase_ValueError (by decide +kernel) PySem.F.excBase_ValueError (mN:=mN) (T.hasType (by decide +kernel)) (I.ok.hd hcalm) (by rw [he]; rfl) hni (ld_glob I hg hm ⟨rfl,?_⟩ hdb)
  have ha':=ha cpos pins s σ H _ I h
  rw [he] at ha' ⊢
  refine Calls.evalArgs_plain (wpAny_mono ha' (fun us s1 ⟨vs,H1,I1,r,z,hE⟩=>?_) fun _ _ y=>y)
  refine ⟨rfl,by rw [<- r.length]; exact z,I1.bk _ _ hC,hN.keeps I1.bk,T.keeps I1.bk,fun h' e' hx=>?_⟩
  obtain ⟨t,oe,_,_⟩:=hx.there
  exact RO pins σ H1 H1 s1 s1 h' e' C t none I1 hx.new I1 (fun b o _ k=>hx.keeps b o k) (fun o k=>by rw [hx.new] at k; cases k) (I1.hok.none_of hx.new) oe hE
end
theorem raiseDok {P : Program} {w : World} {K : PySem.W.Frag} {mg : Str -> Option Value} {base : Heap} {N : List Str} {qual : Str} {scope : Scope} {f : Addr} {cd : Value} {A : Around} {outer : List Env} {s : Shared} {H : Hp} {E : XK} :
    RaiseD (cxD P w K mg base N qual scope f cd A outer s H E) E:=fun pins σ H0 H1 s0 s1 hx e C t dv I0 g0 I hk he1 hH oe hE=>by
  refine raiseD I hk he1 ?_ hH oe hE
  cases q : s.heap.get? e with
  | none=>rfl
  | some o=>
    obtain ⟨o',z⟩:=I0.base.there e o q (fun z=>absurd (show e ∈ ([] : List Addr) from z) (by simp))
    rw [g0] at z; cases z
theorem Fun.okD {P : Program} {w : World} {K : PySem.W.Frag} {mg : Str -> Option Value} {base : Heap} {x qual : Str} {st : Stmt} {f : Addr} {fd : FuncData} {N ps : List Str} {k : Nat} {sp : Sp} (F : Fun K x qual st f fd) (S : FnScope N ps (defScope st)) (len : ∀ vs H Q E,sp vs H Q E -> vs.length = ps.length)
    (hbody : ∀ (cdv : Value) (A : Around) (outer : List Env) (s : Shared) (H : Hp) (vs : List V) (Q : VK) (E : XK),Room k (A.deeper (envOfC qual (defScope st) s.heap.objs.size f cdv)) -> sp vs H Q E ->
      ∃ t,PSs (cxD P w K mg base N qual (defScope st) f cdv A outer s H E) (defBody st) t /\ t { nx:=fun _ H'=>Q .non H',rt:=Q } (start N vs) H) : FnOk P w K mg base (CXD P w) (k + 1) f fd ps sp:=by
  obtain ⟨oc,od,kV,doc,pm,an,cdv,ct,osl,rfl,lk,hcd⟩:=F.ex
  exact fn_of lk hcd S len fun A outer s H vs Q E hr hsp=>hbody cdv A outer s H vs Q E hr hsp
end L2
namespace L2
open PySem PySem.Spec PyProof.Rows PySem.W PySem.Builtin.Getset_descriptor
def IsXD (x C : Addr) (dv : Option Addr) (h : Heap) : Prop:=∃ ox vs,h.get? x = some ox /\ ox.cls = .ref C /\ ox.dict = dv /\ ox.data = .fields vs /\ vs[2]? = some .none
theorem IsXD.x {x C : Addr} {dv : Option Addr} {h : Heap} (I : IsXD x C dv h) : IsX x C h:=let ⟨ox,_,a,b,_⟩:=I; ⟨ox,a,b⟩
theorem extD_ok {P : Program} {w : World} {H : Hp} {h : Heap} {a C : Addr} {dv : Option Addr} (I : IsXD a C dv h) : ObjOk P w H h a (.ext (IsXD a C dv)):=
  ⟨I,(let ⟨o,_,e,_⟩:=I; ⟨o,e⟩),fun h1 h2 ⟨o,vs,e,c⟩ k=>⟨o,vs,k o e,c⟩⟩
section
variable {prog : Program} {w : World} {A : Around} {E : Value -> Shared -> Prop} {h : Heap} {g : Array GenState} {d : Drawn} {t : Nat} {os : OsState} {K : Frag} {x C dx : Addr} {name : Str} {v : Value} {m : Str -> Option Value}
end
section
variable {X : Cx}
end
section
variable {X : Cx} {pins : List (Addr × Obj)} {σ : St} {H H' : Hp} {s s' : Shared} {a C : Addr}
end
end L2
namespace L2
open PySem PySem.Spec PyProof.Rows
section
variable {X : Cx}
end
section
variable {X : Cx}
theorem call_isxD (K : PySem.W.Frag) (hK : X.K = K:=by rfl) : CallR X (.builtin "isinstance") (fun xs H Q=>∃ (a C : Addr) (dv : Option Addr) (c : V) (cv : Value) (b : Bool),xs = [.ref a,c] /\ clsV c = some cv /\ H a = some (.ext (IsXD a C dv)) /\ XCls K C /\ PySem.W.kitOne K (.ref C) cv = some b /\ Q (.bl b) H):=by
  subst hK
  intro pins s σ H xs us Q I r h
  obtain ⟨a,C,dv,c,cv,b,rfl,hc,ha,F,e,q⟩:=h
  obtain ⟨u,w',rfl,r1,r2⟩:=vals2 r
  cases r1
  rw [clsV_rel hc r2]
  exact PySem.W.kia_one (kitx_exc F) I.kIn (I.hok a _ ha).1.x e (fun z=>nomatch z) fun tk=>⟨.bl b,H,I.tok tk,rfl,q⟩
end
end L2
namespace L2
open PySem PySem.Spec PyProof.Rows PySem.W PySem.Builtin.Getset_descriptor
section
variable {X : Cx} {pins : List (Addr × Obj)} {σ : St} {H H' : Hp} {s s' : Shared} {a C : Addr}
theorem handleR {cn n : Str} {i : Nat} {CC : Addr} {a0 : Value} {B : Heap} {dv : Option Addr} {np hpos : Pos} {b₀ : Stmt} {suite : List Stmt} {ts : TS} {D : Ends} (hN : X.N.Nodup) (hi : X.N[i]? = some n) (hk : X.env.scope.names.lookup n = some .local) (hex : ∀ b,b ∉ X.ex)
    (hst : X.stack = X.env :: X.outer) (hfr : X.env.frame = some X.env.locals) (hg : Gl X cn) (hm : X.mg cn = some (.ref CC)) (hx : exmOne X.K (.ref C) (.ref CC) = some true) (I : Inv X pins σ H s) (F : Fly X.prog X.w X.stack H H' s s' a (.ref C) a0 B) (dd : ∃ o',s'.heap.get? a = some o' /\ o'.dict = dv /\ fld2 o' = some .none)
    (hsuite : PSs (suiteCx X a) (b₀ :: suite) ts) (q : ts { nx:=fun σ2 H2=>D.nx (σ2.set i none) H2,rt:=D.rt } (σ.set i (some (.ref a))) (upd H' a (.ext (IsXD a C dv)))) (hdb : (cn == ("__debug__" : Str)) = false:=by decide) :
    wpAny (model X.prog X.w) X.A (noteFrame (.ref a) X.env) (fun _ s₂=>wpAny (model X.prog X.w) X.A (setFlight (.ref a) none) (fun _ s₃=>wpAny (model X.prog X.w) X.A (handleBy (.ref a) X.env [.ExceptHandler (some (.Name cn np)) (some n) (b₀ :: suite) hpos]) (SP X pins D) X.xe s₃) X.xe s₂) X.xe s':=by
  have hcls : (X.env.scope.kind == .class || (X.env.scope.kind == .module && X.env.locals != X.env.globals)) = false:=by rw [I.ok.kind]; rfl
  have fl0:=F.fl
  rw [hst] at fl0
  refine look_dict (by rw [<- hst]; exact I.ok.frames) hfr fl0 dd fun h4 held4 d4 sm4=>?_
  refine flight_dict (s:={ s' with heap:=h4 }) held4.1 held4.2.1 held4.2.2.1 held4.2.2.2 d4 fun h5 fl5 d5 sm5=>?_
  obtain ⟨n1,n2⟩:=F.new
  have I5 : Inv X pins σ H' { s' with heap:=h5 }:=F.inv I fl5.1 (sm4.trans sm5)
  obtain ⟨ob,hob,hobc⟩:=fl5.there
  have LT : Looks (model X.prog X.w) h5 (typeOf (.ref a)) (.ref C):=IsX.type ⟨ob,hob,hobc⟩
  refine wpAny_handleBy_cons (codeAny_handlers_test (ld_glob (X:=suiteCx X a) (I5.suite a) hg hm ?_ hdb)) (by intro z; cases z)
  refine (exm_one (h:=h5) I5.kIn LT hx).at ?_
  refine codeAny_handlers_suite_as ?_
  refine flight_dict (s:={ s' with heap:=h5 }) fl5.1 fl5.2.1 fl5.2.2.1 fl5.2.2.2.at d5 fun h6 fl6 d6 sm6=>?_
  have I6 : Inv X pins σ H' { s' with heap:=h6 }:=F.inv I fl6.1 ((sm4.trans sm5).trans sm6)
  obtain ⟨ob6,vs6,hob6,hobc6,hod6,_⟩:=fl6.first
  obtain ⟨o',ho',hd',hf'⟩:=d6
  rw [hob6] at ho'
  cases ho'
  have I7 : Inv X pins σ (upd H' a (.ext (IsXD a C dv))) { s' with heap:=h6 }:=Inv.track I hex n1 I6 n2 (extD_ok ⟨ob6,vs6,hob6,hobc6,hd',hod6,by unfold fld2 at hf'; rw [hod6] at hf'; exact hf'⟩)
  refine store_ok (X:=suiteCx X a) (v:=.ref a) (I7.suite a) hN hi (.inl hk) rfl (fun s8 I8=>?_) (.inr hk)
  refine wpAny_mono (hsuite pins s8 _ _ _ I8 q) (fun f s9 h9=>?_) fun _ _ z=>z.elim
  cases f with
  | next=>
    obtain ⟨σ9,H9,I9,q9⟩:=h9
    have I9':=I9.unsuite I.ok
    obtain ⟨m,hn,hl⟩:=id I9'.loc
    exact wpAny_nameGoes_keeps hk hn hcls fun h10 v hn' hs'=>⟨_,_,I9'.forget hN hi hl hn' hs',q9⟩
  | brk=>obtain ⟨_,_,_,z⟩:=h9; exact z.elim
  | cont=>obtain ⟨_,_,_,z⟩:=h9; exact z.elim
  | ret u=>
    obtain ⟨v9,σ9,H9,I9,r9,q9⟩:=h9
    have I9':=I9.unsuite I.ok
    obtain ⟨m,hn,hl⟩:=id I9'.loc
    exact wpAny_nameGoes_keeps hk hn hcls fun h10 v hn' hs'=>⟨v9,_,_,I9'.forget hN hi hl hn' hs',r9,q9⟩
end
end L2
namespace L2
open PySem PySem.Spec PyProof.Rows
section
variable {X : Cx}
end
end L2
namespace L2
open PySem PySem.Spec PyProof.Rows PySem.W PySem.Builtin.Getset_descriptor
section
variable {X : Cx} {pins : List (Addr × Obj)} {σ : St} {H H' : Hp} {s s' : Shared} {a C : Addr}
end
section
variable {X : Cx}
end
end L2
namespace L2
open PySem PySem.Spec PyProof.Rows PySem.SeqAt
section
variable {prog : Program} {w : World} {A : Around} {E : Value -> Shared -> Prop} {s : Shared}
end
section
variable {X : Cx}
theorem countB {bs : List Bool} {its : List Value} (r : Vals (bs.map V.bl) its) : its.countP (isBoolOf true) = bs.countP id:=by
  induction bs generalizing its with
  | nil=>cases r; rfl
  | cons b bs ih=>
    cases r with
    | cons a r=>
      cases a
      rw [List.countP_cons,List.countP_cons,ih r]
      cases b <;> rfl
theorem eqB {bs : List Bool} {its : List Value} (r : Vals (bs.map V.bl) its) : ∀ y,y ∈ its -> ∀ (A : Around) (s : Shared),EqAt A s y (.bool true) (isBoolOf true y):=by
  induction bs generalizing its with
  | nil=>cases r; intro y hy; exact absurd hy (by simp)
  | cons b bs ih=>
    cases r with
    | cons a r=>
      cases a
      intro y hy A s
      rcases List.mem_cons.mp hy with e4 | hy
      · rw [e4]; exact EqAt.bool_bool b true
      · exact ih r y hy A s
def rCountB : V -> List V -> Hp -> VK -> Prop:=fun x vs H Q=>∃ (l : Addr) (bs : List Bool),x = .ref l /\ vs = [.bl true] /\ H l = some (.lst (bs.map V.bl)) /\ Q (.int (bs.countP id : Nat)) H
theorem mt_countB : MtR X "list.count" rCountB:=by
  intro pins s σ H x vs v us Q I rx rv h
  obtain ⟨l,bs,rfl,rfl,hH,q⟩:=h
  cases rx
  obtain ⟨u,rfl,ru⟩:=rv.one
  obtain rfl : u = Value.bool true:=ru
  obtain ⟨z,its,n,r,hl,e⟩:=I.lstM hH
  refine call_meets PySem.F.slot_list_count ⟨_,e,rfl⟩ PySem.F.entry_list_count (PySem.F.args_list_count_2 _ _) (list_countAt l its.toArray n none #[] (.bool true) (isBoolOf true)) ⟨e,fun y hy=>eqB r y (by simpa using hy) _ _,?_⟩
  rw [show its.toArray.toList = its from rfl,countB r]
  exact ⟨.int _,H,I.tok _,⟨_,rfl⟩,q⟩
def rIndexB : V -> List V -> Hp -> VK -> Prop:=fun x vs H Q=>∃ (l : Addr) (bs : List Bool) (j : Nat),x = .ref l /\ vs = [.bl true] /\ H l = some (.lst (bs.map V.bl)) /\ bs.length <= 1000 /\ bs[j]? = some true /\ (∀ m,m < j -> bs[m]? = some false) /\ Q (.int (j : Nat)) H
theorem mt_indexB : MtR X "list.index" rIndexB:=by
  intro pins s σ H x vs v us Q I rx rv h
  obtain ⟨l,bs,j,rfl,rfl,hH,hz,hj,hno,q⟩:=h
  cases rx
  obtain ⟨u,rfl,ru⟩:=rv.one
  obtain rfl : u = Value.bool true:=ru
  obtain ⟨z,its,n,r,hl,e⟩:=I.lstM hH
  rw [List.length_map] at hl
  have lj : j < bs.length:=(List.getElem?_eq_some_iff.mp hj).1
  have at' : ∀ m (hm : m < its.toArray.size) b,bs[m]? = some b -> its.toArray[m] = Value.bool b:=fun m hm b hb=>by
    obtain ⟨u,hu,ru⟩:=r.get (show (bs.map V.bl)[m]? = some (V.bl b) by rw [List.getElem?_map,hb]; rfl)
    obtain rfl : u = Value.bool b:=ru
    have : its.toArray[m]? = some (Value.bool b):=by simpa using hu
    exact (Array.getElem?_eq_some_iff.mp this).2
  refine call_meets PySem.F.slot_list_index ⟨_,e,rfl⟩ PySem.F.entry_list_index (PySem.F.args_list_index_2 _ _)
    (list_indexAt l its.toArray n none #[] (.bool true) (isBoolOf true) j (by rw [List.size_toArray,<- hl]; exact lj) (by omega) ?_ ?_) ⟨e,fun y hy=>eqB r y (by simpa using hy) _ _,⟨.int _,H,I.tok _,⟨_,rfl⟩,q⟩⟩
  · rw [at' j _ true hj]; rfl
  · intro m hm hlt
    rw [at' m hm false (hno m hlt)]; rfl
end
end L2
namespace L2
open PySem PySem.Spec PyProof.Rows PySem.SeqAt
section
variable {X : Cx}
end
end L2
namespace L2
open PySem PySem.Spec PyProof.Rows
section
variable {X : Cx}
def rCatT0 (K : PySem.W.Frag) : R2:=fun x y H Q=>∃ a b ys,x = .ref a /\ y = .ref b /\ SqT K H a [] /\ SqT K H b ys /\ Q (.ref b) H
theorem op_catT0 : OpR X (binaryOp .Add) (rCatT0 X.K):=by
  intro pins s σ H x y v u Q I rx ry h
  obtain ⟨a,b,ys,rfl,rfl,ha,hb,q⟩:=h
  cases rx
  cases ry
  obtain ⟨its,r1,p1,_⟩:=I.tuple ha
  obtain ⟨its2,r2,p2,_⟩:=I.tuple hb
  have e1 : its = []:=r1.nil_iff.mpr rfl
  subst e1
  obtain ⟨⟨cls,dd,data,sl⟩,ho,hc,n,hd⟩:=id p1
  obtain ⟨⟨cls2,dd2,data2,sl2⟩,ho2,hc2,n2,hd2⟩:=id p2
  simp only at hc hd hc2 hd2
  subst hc hd hc2 hd2
  exact concat_meets ⟨_,ho,rfl⟩ ⟨_,ho2,rfl⟩ noFill_tuple_add seq_tuple_add PySem.F.slot_tuple_add PySem.F.entry_tuple_add (PySem.F.args_tuple_add_2 _ _)
    (tuple_addW0 a b ([] : List Value).toArray its2.toArray n n2 dd dd2 sl sl2 (by simp)) ⟨ho,ho2,⟨.ref b,H,I,rfl,q⟩⟩
abbrev rCat2 (K : PySem.W.Frag) : R2:=fun x y H Q=>rCatT K x y H Q \/ rCatT0 K x y H Q
theorem op_cat2 : OpR X (binaryOp .Add) (rCat2 X.K):=op_catT.or op_catT0
end
end L2
namespace L2
open PySem PySem.Spec PyProof.Rows
def PTs (X : Cx) (ifs : List Expr) (t : TT) : Prop:=
  ∀ (pins : List (Addr × Obj)) (s : Shared) (σ : St) (H : Hp) (Q : Bool -> Hp -> Prop),Inv X pins σ H s -> t σ H Q ->
    wpAny (model X.prog X.w) X.A (forIn ifs true fun c r=>if r = true then do let ok <- isTrue c X.env (eval c X.env); pure (ForInStep.yield ok) else pure (ForInStep.yield r)) (TP X pins σ Q) X.xe s
def tTrue : TT:=fun _ H Q=>Q true H
theorem pts_nil {X : Cx} : PTs X [] tTrue:=fun _ _ _ H _ I h=>wpAny_tests_nil ⟨H,I,h⟩
theorem pts_one {X : Cx} {c : Expr} {t : TT} (h : PT X c t) : PTs X [c] t:=fun pins s σ H Q I q=>wpAny_tests_one (h pins s σ H Q I q)
def compBodyT (J : It) (cap : List (Option Nat)) (g : TG) (tt : TT) (te : TE) (σ : St) (H1 : Hp) (Q : VK) : Prop:=∀ acc,H1 acc = none ->
  ∃ W : Nat -> Nat -> List V -> St -> Hp -> Prop,(∃ m,W 0 m [] (capOf cap σ) (upd H1 acc (.lst []))) /\ ∀ i m ys σ' H',W i m ys σ' H' -> H' acc = some (.lst ys) /\
    ((J.stop i H' /\ Q (.ref acc) H') \/ (J.go i H' /\ ys.length < sizeLine /\ ∀ x H2,J.yld i H' x H2 -> g x σ' H2 fun σ3 H3=>tt σ3 H3 fun b H4=>
      if b = true then te σ3 H4 fun y H5=>H5 acc = some (.lst ys) /\ ∃ m',m' < m /\ W (i + 1) m' (ys ++ [y]) σ3 (upd H5 acc (.lst (ys ++ [y])))
      else ∃ m',m' < m /\ W (i + 1) m' ys σ3 H4))
def tCompT (cap : List (Option Nat)) (wi : TI) (g : TG) (tt : TT) (te : TE) : TE:=fun σ H Q=>wi σ H fun J H1=>compBodyT J cap g tt te σ H1 Q
section
variable {prog : Program} {w : World} {A : Around} {R : Result -> Shared -> Prop} {s : Shared}
theorem compLoop_anyT {elt target iter : Expr} {ifs : List Expr} {scope : Scope} {pos : Pos} {it acc : Value} {env : Env} (I : Nat -> Shared -> Prop)
    (turn : ∀ n s,I n s -> wpAny (model prog w) A (pyNext it) (fun r s₁=>match r with
      | none=>R (.ok .next) s₁
      | some v=>wpAny (model prog w) A (letOwnedTupleGo target it v) (fun _ s₁'=>wpAny (model prog w) A (assign target env v) (fun _ s₂=>
          wpAny (model prog w) A (forIn ifs true fun c r=>if r = true then do let ok <- isTrue c env (eval c env); pure (ForInStep.yield ok) else pure (ForInStep.yield r)) (fun ok s₃=>
            if ok = true then wpAny (model prog w) A (eval elt env) (fun x s₄=>
              wpAny (model prog w) A (call (.builtin "list.append") [acc,x]) (fun _ s₅=>∃ m,m < n /\ I m s₅) (fun _ _=>False) s₄) (fun _ _=>False) s₃
            else ∃ m,m < n /\ I m s₃) (fun _ _=>False) s₂)
          (fun _ _=>False) s₁') (fun _ _=>False) s₁) (fun _ _=>False) s)
    (n : Nat) (h : I n s) : codeAny (model prog w) A (.compLoop (.ListComp elt [⟨target,iter,ifs,0⟩] scope pos) 0 it acc env) R s:=by
  refine codeAny_loop rfl I (fun n s hI=>?_) n h
  show wpAny _ A ((compTurn (.ListComp elt [⟨target,iter,ifs,0⟩] scope pos) 0 it acc env).onRaise (fun x=>do noteFrame x env; theTreesLotGoes x)) _ _ s
  refine wpAny_noted ?_
  rw [compTurn_list]
  refine wpAny_bind (wpAny_standAt (wpAny_bind (wpAny_mono (turn n s hI) (fun r s₁ h₁=>?_) fun _ _ h'=>h'.elim)))
  cases r with
  | none=>exact wpAny_pure h₁
  | some v=>
    refine wpAny_bind (wpAny_mono h₁ (fun _ s₁' h₁'=>?_) fun _ _ h'=>h'.elim)
    refine wpAny_bind (wpAny_mono h₁' (fun _ s₂ h₂=>wpAny_bind (wpAny_mono h₂ (fun ok s₃ h₃=>?_) fun _ _ h'=>h'.elim)) fun _ _ h'=>h'.elim)
    cases ok with
    | true=>
      rw [if_pos rfl] at h₃
      exact wpAny_bind (wpAny_bind (wpAny_mono h₃ (fun x s₄ h₄=>wpAny_bind (wpAny_mono h₄ (fun _ s₅ h₅=>wpAny_pure (wpAny_pure ⟨rfl,h₅⟩)) fun _ _ h'=>h'.elim)) fun _ _ h'=>h'.elim))
    | false=>
      rw [if_neg Bool.false_ne_true] at h₃
      exact wpAny_bind (wpAny_pure (wpAny_pure ⟨rfl,h₃⟩))
end
section
variable {X : Cx}
theorem comp_coreT {elt tg iter : Expr} {ifs : List Expr} {tt : TT} {pos : Pos} {N N' : List Str} {sc scE : Scope} {cap : List (Option Nat)} {wi : TI} {g : TG} {te : TE} {use : Option (Value -> Sem Unit)} {QQ : Value -> Shared -> Prop} (hcalm : X.calm = true) (hi : PI X tg iter wi)
    (hg : ∀ cl C s0 H0 ex,PG (blkC X N' sc cl C s0 H0 ex) tg g) (he : ∀ cl C s0 H0 ex,PE (blkC X N' sc cl C s0 H0 ex) elt te) (htt : ∀ cl C s0 H0 ex,PTs (blkC X N' sc cl C s0 H0 ex) ifs tt)
    (hN : X.N = N) (hE : X.env.scope = scE) (hc : compOkC N N' sc scE cap = true) (hs : ∀ x,foldedSetIterable iter X.env x = pure x)
    {pins : List (Addr × Obj)} {s : Shared} {σ : St} {H : Hp} {Q : VK} (I : Inv X pins σ H s) (h : tCompT cap wi g tt te σ H Q)
    (fin : ∀ acc C H' s' m,Inv X pins σ H' s' -> s'.heap.Ns C m -> FpOk X pins H' C -> Q (.ref acc) H' -> compPost (model X.prog X.w) X.A X.xe use QQ (.ref acc) C (.ok .next) s') {pos' : Pos} :
    wpAny (model X.prog X.w) X.A (comprehension (.ListComp elt [⟨tg,iter,ifs,0⟩] sc pos) sc X.env pos' (newList []) false (eval iter X.env) use) QQ X.xe s:=by
  have ck:=compOkC.of hc
  obtain ⟨cl,hcl,c1,c2⟩:=closure_of (scope:=sc) (env:=X.env) fun x hx hf=>I.ok.has x.1 (by
    have:=ck.fre x hx hf
    rw [<- hE] at this
    exact this)
  refine wpAny_comprehension_free (use:=use) rfl hs hcl ck.kind ck.loc (thn (hi pins s σ H _ I h) fun v s1 h1=>thn h1 fun itv s2 h2=>?_)
  obtain ⟨it,fp,tn,J,H2,e,I2,T,st2,f2,hw⟩:=h2
  subst e
  have fsz : ∀ b ∈ fp,b < s2.heap.objs.size:=fun b hb=>by
    obtain ⟨o,e,_⟩:=T.obj _ _ st2 b hb
    exact Heap.lt_size e
  obtain ⟨W,⟨m0,w0⟩,turn⟩:=hw s2.heap.objs.size I2.fresh
  refine wpAny_newObj_type (wpAny_newEnvC ?_)
  dsimp only
  have I3 : Inv X pins σ (upd H2 s2.heap.objs.size (.lst [])) { s2 with heap:=s2.heap.push { cls:=.type "list",data:=.seq ([] : List Value).toArray } }:=
    I2.lnew (its:=[]) (ys:=[]) (t':=s2.toks) .nil (Nat.zero_le _)
  generalize hs3 : ({ s2 with heap:=s2.heap.push { cls:=.type "list",data:=.seq ([] : List Value).toArray } } : Shared) = s3 at I3
  have hh3 : s3.heap = s2.heap.push { cls:=.type "list",data:=.seq ([] : List Value).toArray }:=by rw [<- hs3]
  have hsz : s3.heap.objs.size = s2.heap.objs.size + 1:=by rw [hh3,Heap.size_push]
  have f3 : ∀ b ∈ fp,FpOk X pins (upd H2 s2.heap.objs.size (.lst [])) b:=fun b hb=>by
    obtain ⟨g0,g1⟩:=f2 b hb
    exact ⟨by rw [upd_ne (Nat.ne_of_lt (fsz b hb))]; exact g0,g1⟩
  have k3 : ∀ b o,s2.heap.get? b = some o -> s3.heap.get? b = some o:=fun b o e=>by rw [hh3]; exact Heap.get?_push_of_some _ e
  obtain ⟨cl',hcl'⟩ : ∃ cl',cellsFrom (s3.heap.objs.size + 1) sc.names cl = cl':=⟨_,rfl⟩
  obtain ⟨h₁,hh₁⟩ : ∃ h₁,pushCells (s3.heap.push { cls:=.type "dict",data:=.dict #[] }) sc.names = h₁:=⟨_,rfl⟩
  have k1 : ∀ b o,s3.heap.get? b = some o -> h₁.get? b = some o:=fun b o e=>by rw [<- hh₁]; exact pushCells_keeps _ _ b o (Heap.get?_push_of_some _ e)
  have c1' : ∀ x c,cl'.lookup x = some c -> cl.lookup x = some c \/ s3.heap.objs.size + 1 <= c:=fun x c e=>by
    rw [<- hcl'] at e
    have:=cellsFrom_look (sc.names) (s3.heap.push { cls:=.type "dict",data:=.dict #[] }) cl x c (by rw [Heap.size_push]; exact e)
    rcases this with z | ⟨_,z,_⟩
    · exact .inl z
    · rw [Heap.size_push] at z; exact .inr z
  have I4 : Inv (blkC X N' sc cl' s3.heap.objs.size s3 (upd H2 s2.heap.objs.size (.lst [])) fp) [] (capOf cap σ) (upd H2 s2.heap.objs.size (.lst [])) { s3 with heap:=h₁ }:=by
    rw [<- hcl',<- hh₁]
    exact blk_invC I3 hN hE ck c1 c2 f3 (fun b hb=>Nat.lt_of_lt_of_le (fsz b hb) (by rw [hsz]; exact Nat.le_succ _))
  have st4 : tn 0 h₁:=T.keep _ _ _ st2 fun b hb o e=>k1 b o (k3 b o e)
  generalize hX' : blkC X N' sc cl' s3.heap.objs.size s3 (upd H2 s2.heap.objs.size (.lst [])) fp = X' at I4
  have hxe : X'.xe = fun _ _=>False:=by rw [<- hX']; rfl
  have hprog : X'.prog = X.prog:=by rw [<- hX']; rfl
  have hww : X'.w = X.w:=by rw [<- hX']; rfl
  have hKK : X'.K = X.K:=by rw [<- hX']; rfl
  have hAA : X'.A = X.A:=by rw [<- hX']; rfl
  have hcc : X'.calm = true:=by rw [<- hX']; exact hcalm
  have henv : X'.env = compEnvC sc cl' s3.heap.objs.size X.env:=by rw [<- hX']; rfl
  have hloc : X'.env.locals = s3.heap.objs.size:=by rw [henv]; rfl
  have hg' : PG X' tg g:=by rw [<- hX']; exact hg _ _ _ _ _
  have he' : PE X' elt te:=by rw [<- hX']; exact he _ _ _ _ _
  have htt' : PTs X' ifs tt:=by rw [<- hX']; exact htt _ _ _ _ _
  have stat : ∀ {H' : Hp},(∀ b ∈ fp,H' b = none) -> ∀ b ∈ fp,FpOk X' [] H' b:=fun {H'} hn b hb=>by
    obtain ⟨_,g1,g2,g3,g4,g5⟩:=f3 b hb
    refine ⟨hn b hb,by rw [hloc,hsz]; exact Nat.ne_of_lt (Nat.lt_succ_of_lt (fsz b hb)),?_,?_,?_,fun p hp=>?_⟩
    · rw [<- hX']
      intro z
      rcases List.mem_cons.mp (I3.stkSub b z) with e | z
      · exact g1 e
      · exact g2 z
    · left
      rw [<- hX']
      exact hb
    · intro x c e
      rw [henv] at e
      rcases c1' x c e with z | z
      · exact g4 x c (c1 x c z)
      · exact fun q=>absurd (Nat.lt_of_lt_of_le (fsz b hb) (Nat.le_trans (Nat.le_trans (Nat.le_succ _) (hsz ▸ Nat.le_succ _)) (q ▸ z))) (Nat.lt_irrefl _)
    · rw [<- hX'] at hp
      cases hp
  have fin' : ∀ {σ' : St} {H' : Hp} {s' : Shared},Inv X' [] σ' H' s' -> Q (.ref s2.heap.objs.size) H' -> compPost (model X.prog X.w) X.A X.xe use QQ (.ref s2.heap.objs.size) s3.heap.objs.size (.ok .next) s':=fun {σ' H' s'} J q=>by
    obtain ⟨mm,hmm,_⟩:=J.loc
    rw [hloc] at hmm
    have hfree : H' s3.heap.objs.size = none:=by have:=J.free; rw [hloc] at this; exact this
    have hok:=J.hok
    rw [hprog,hww] at hok
    have u1 : Un (frs X.stack) fp (upd H2 s2.heap.objs.size (.lst [])) H' s3.heap s'.heap:=by
      have:=J.base
      rw [<- hX'] at this
      exact this
    have hos : s'.os = s3.os:=by have:=J.os; rw [<- hX'] at this; exact this
    refine fin _ _ H' s' mm (I3.call' (s':=s') hos u1 hok J.bare fun b hb=>?_) hmm (I3.fpOk (Nat.le_refl _) hfree) q
    obtain ⟨_,g1,g2,g3,g4,g5⟩:=f3 b hb
    exact ⟨g3,g1,g4,g5⟩
  have loop : codeAny (model X.prog X.w) X.A (.compLoop (.ListComp elt [⟨tg,iter,ifs,0⟩] sc pos) 0 (.ref it) (.ref s2.heap.objs.size) X'.env)
      (compPost (model X.prog X.w) X.A X.xe use QQ (.ref s2.heap.objs.size) s3.heap.objs.size) { s3 with heap:=h₁ }:=by
    refine compLoop_anyT (fun n s'=>∃ i ys σ' H',Inv X' [] σ' H' s' /\ tn i s'.heap /\ (∀ b ∈ fp,H' b = none) /\ W i n ys σ' H') ?_ m0 ⟨0,[],_,_,I4,st4,fun b hb=>(f3 b hb).1,w0⟩
    rintro n s5 ⟨i,ys,σ5,H5,I5,st5,fr5,w5⟩
    obtain ⟨hacc,q⟩:=turn i n ys σ5 H5 w5
    rcases q with ⟨stop,q⟩ | ⟨go,hlen,step⟩
    · refine thn (hAA ▸ T.done X' hprog hww hKK hcc i [] s5 σ5 H5 _ I5 (stat fr5) st5 stop) fun r s6 ⟨hr,I6⟩=>?_
      subst hr
      exact fin' I6 q
    · refine thn (hAA ▸ T.item X' hprog hww hKK hcc i [] s5 σ5 H5 _ I5 (stat fr5) st5 go) fun r s6 ⟨u,hr,h6⟩=>?_
      subst hr
      refine thn h6 fun _ s7 ⟨x,H7,I7,r7,y7,st7,fr7⟩=>?_
      have I7':=I7.pinned (stat fr7) (T.obj _ _ st7)
      have g7:=hg' _ s7 σ5 H7 x u _ I7' r7 (step x H7 y7)
      rw [hprog,hww,hAA,hxe] at g7
      refine thn g7 fun _ s8 ⟨σ8,H8,I8,q8⟩=>?_
      have t8:=htt' _ s8 σ8 H8 _ I8 q8
      rw [hprog,hww,hAA,hxe] at t8
      refine thn t8 fun okb s8t ⟨H8t,I8t,q8t⟩=>?_
      cases okb with
      | false=>
        rw [if_neg Bool.false_ne_true] at q8t ⊢
        obtain ⟨m',hm',w9⟩:=q8t
        refine ⟨m',hm',i + 1,_,σ8,_,I8t.unpinned,T.keep _ _ _ st7 fun b hb o eo=>(I8t.pin (b,o) (List.mem_append_right _ (List.mem_append_right _ (mem_pinsAt hb eo)))).1,fun b hb=>?_,w9⟩
        obtain ⟨o,eo,d⟩:=T.obj _ _ st7 b hb
        exact (I8t.pin (b,o) (List.mem_append_right _ (List.mem_append_right _ (mem_pinsAt hb eo)))).2.1
      | true=>
      rw [if_pos rfl] at q8t ⊢
      have g8:=he' _ s8t σ8 H8t _ I8t q8t
      rw [hprog,hww,hAA,hxe] at g8
      refine thn g8 fun y s9 ⟨yv,H9,I9,r9,a9,m',hm',w9⟩=>?_
      obtain ⟨z,its,nn,rr,hl,e⟩:=I9.lstM a9
      refine call_meets F.slot_list_append ⟨_,e,rfl⟩ F.entry_list_append (F.args_list_append_2 _ _) (PySem.list_append _ its.toArray nn y (by rw [List.size_toArray]; omega)) ⟨e,?_⟩
      have I10 : Inv X' ([] ++ pinsAt fp s7.heap) σ8 (upd H9 s2.heap.objs.size (.lst (ys ++ [yv]))) { s9 with heap:=s9.heap.update s2.heap.objs.size (Obj.mapSeq fun a=>a.push y) }:=
        I9.lset (t':=s9.toks) (its':=its ++ [y]) a9 e (by simp) (rr.append (.cons r9 .nil)) (by rw [List.length_append,List.length_singleton]; omega)
      refine ⟨m',hm',i + 1,_,σ8,_,I10.unpinned,T.keep _ _ _ st7 fun b hb o eo=>(I10.pin (b,o) (List.mem_append_right _ (List.mem_append_right _ (mem_pinsAt hb eo)))).1,fun b hb=>?_,w9⟩
      obtain ⟨o,eo,d⟩:=T.obj _ _ st7 b hb
      exact (I10.pin (b,o) (List.mem_append_right _ (List.mem_append_right _ (mem_pinsAt hb eo)))).2.1
  rw [henv] at loop
  have goal:=codeAny_compStart_list (rest:=[]) (ifs:=ifs) loop (T.self X.A 0 _ _ _ st4 loop)
  subst hs3
  rw [<- hcl',<- hh₁] at goal
  exact goal
theorem pe_compT {elt tg iter : Expr} {ifs : List Expr} {tt : TT} {pos : Pos} {N N' : List Str} {sc scE : Scope} {cap : List (Option Nat)} {wi : TI} {g : TG} {te : TE} (hcalm : X.calm = true) (hi : PI X tg iter wi)
    (hg : ∀ cl C s0 H0 ex,PG (blkC X N' sc cl C s0 H0 ex) tg g) (he : ∀ cl C s0 H0 ex,PE (blkC X N' sc cl C s0 H0 ex) elt te) (htt : ∀ cl C s0 H0 ex,PTs (blkC X N' sc cl C s0 H0 ex) ifs tt)
    (hN : X.N = N:=by rfl) (hE : X.env.scope = scE:=by rfl) (hc : compOkC N N' sc scE cap = true:=by decide +kernel) (hs : ∀ x,foldedSetIterable iter X.env x = pure x:=by intro _; rfl) :
    PE X (.ListComp elt [⟨tg,iter,ifs,0⟩] sc pos) (tCompT cap wi g tt te):=by
  intro pins s σ H Q I h
  rw [eval_ListComp]
  refine comp_coreT (use:=none) hcalm hi hg he htt hN hE hc hs I h fun acc C H' s' m I' hm hf q=>⟨m,hm,fun h' hs'=>?_⟩
  obtain ⟨f0,f1,f2,f3,f4,f5⟩:=hf
  exact ⟨.ref acc,H',I'.turned (t':=s'.toks) (fun b o hb e=>(hs'.2 b hb).trans e) f0 f1 f3 f4 f5,rfl,q⟩
theorem ps_compT {ifs : List Expr} {tt : TT} {i : Nat} {x : Str} {px spos : Pos} {elt tg iter : Expr} {pos : Pos} {N N' : List Str} {sc scE : Scope} {cap : List (Option Nat)} {wi : TI} {g : TG} {te : TE} (hnd : X.N.Nodup) (hix : X.N[i]? = some x) (hx : Loc X.env.scope x) (hcalm : X.calm = true) (hi : PI X tg iter wi)
    (hg : ∀ cl C s0 H0 ex,PG (blkC X N' sc cl C s0 H0 ex) tg g) (he : ∀ cl C s0 H0 ex,PE (blkC X N' sc cl C s0 H0 ex) elt te) (htt : ∀ cl C s0 H0 ex,PTs (blkC X N' sc cl C s0 H0 ex) ifs tt)
    (hsw : swapsWith (.ListComp elt [⟨tg,iter,ifs,0⟩] sc pos) (some (.Name x px)) spos.line X.env = pure true:=by rfl)
    (hN : X.N = N:=by rfl) (hE : X.env.scope = scE:=by rfl) (hc : compOkC N N' sc scE cap = true:=by decide +kernel) (hs : ∀ x,foldedSetIterable iter X.env x = pure x:=by intro _; rfl)
    (hf : X.fn x = true \/ X.env.scope.names.lookup x = some .local:=by first | exact .inl rfl | exact .inr rfl | assumption) :
    PS X (.Assign [.Name x px] (.ListComp elt [⟨tg,iter,ifs,0⟩] sc pos) spos) (tAsg (tCompT cap wi g tt te) (gName i)):=by
  intro pins s σ H D I h
  rw [exec_Assign_Name_used _ _ _ _ hsw]
  refine wpAny_bind (wpAny_standAt (wpAny_bind ?_))
  show wpAny _ _ (do let _ <- comprehension (.ListComp elt [⟨tg,iter,ifs,0⟩] sc pos) sc X.env _ (newList []) false (eval iter X.env) (some (assign (.Name x px) X.env))) _ _ s
  refine wpAny_bind (wpAny_mono (comp_coreT (use:=some (assign (.Name x px) X.env)) (QQ:=fun _ s'=>SP X pins D .next s') hcalm hi hg he htt hN hE hc hs I h ?_) (fun _ s' hq=>wpAny_pure (wpAny_pure hq)) fun _ _ e=>e)
  intro acc C H' s' m I' hm hfp q
  obtain ⟨f0,f1,f2,f3,f4,f5⟩:=hfp
  show wpAny _ _ (assign (.Name x px) X.env (.ref acc)) _ _ _
  refine wpAny_assign_Name (store_ok2 I' hnd hix hx (v:=.ref acc) rfl (fun s2 I2 ⟨a,sb,ha⟩=>⟨m,?_,fun h' hs'=>?_⟩) hf)
  · refine hm.sameBut sb fun z=>?_
    rcases ha with ha | ha
    · exact f1 (z.trans ha)
    · exact f4 x a ha z.symm
  · exact ⟨_,H',I2.turned (t':=s2.toks) (fun b o hb e=>(hs'.2 b hb).trans e) f0 f1 f3 f4 f5,q⟩
end
end L2
namespace L2
open PySem PySem.Spec PyProof.Rows
theorem fm_congr {α β : Type} {f g : α -> Option β} : ∀ {l : List α},(∀ x ∈ l,f x = g x) -> l.filterMap f = l.filterMap g
  | [],_=>rfl
  | x :: l,h=>by
    rw [List.filterMap_cons,List.filterMap_cons,h x List.mem_cons_self,fm_congr fun y hy=>h y (List.mem_cons_of_mem _ hy)]
theorem pick_down (its : List Value) : ∀ k,k <= its.length -> ((List.range k).filterMap fun (m : Nat)=>its[its.length - 1 - m]?) = (its.reverse.take k)
  | 0,_=>by simp
  | k + 1,h=>by
    have ih:=pick_down its k (by omega)
    rw [List.range_succ,List.filterMap_append,ih]
    have e : its[its.length - 1 - k]? = some its[its.length - 1 - k]:=List.getElem?_eq_getElem (by omega)
    rw [List.take_add_one]
    congr 1
    rw [List.getElem?_reverse (by omega),e]
    simp [e]
theorem slicePick_rev (its : List Value) : slicePick its.toArray none none (some (-1)) = its.reverse.toArray:=by
  unfold slicePick
  have hb : (sliceBounds none none (some (-1)) its.toArray.size) = ((its.length : Int) - 1,-1,-1):=by
    rw [List.size_toArray]
    rfl
  rw [hb]
  unfold sliceRange
  have hc : (if (-1 : Int) > 0 then (if (its.length : Int) - 1 < -1 then ((-1 : Int) - ((its.length : Int) - 1) + -1 - 1) / -1 else 0) else (if (its.length : Int) - 1 > -1 then ((its.length : Int) - 1 - -1 - -1 - 1) / (- -1) else 0)).toNat = its.length:=by
    rw [if_neg (by omega)]
    split
    · rw [show (- -1 : Int) = 1 from rfl,Int.ediv_one]; omega
    · omega
  simp only [hc]
  congr 1
  rw [List.filterMap_map]
  have e : ((fun x=>its.toArray[x]?) ∘ fun (k : Nat)=>((its.length : Int) - 1 + -1 * (k : Int)).toNat) = fun (m : Nat)=>its[(((its.length : Int) - 1 + -1 * (m : Int)).toNat)]?:=by
    funext m
    simp
  rw [e]
  have:=pick_down its its.length (Nat.le_refl _)
  rw [show its.reverse.take its.length = its.reverse from List.take_of_length_le (by simp)] at this
  rw [<- this]
  refine fm_congr fun m hm=>?_
  have hm':=List.mem_range.mp hm
  congr 1
  omega
section
variable {X : Cx} {e e3 : Expr} {te t3 : TE} {pos p2 : Pos}
def tRev (K : PySem.W.Frag) (te t3 : TE) : TE:=fun σ H Q=>te σ H fun x H1=>t3 σ H1 fun y H2=>y = .int (-1) /\ ∃ a xs,x = .ref a /\ SqL K H2 a xs /\ ∀ p,H2 p = none -> Q (.ref p) (upd H2 p (.lst xs.reverse))
theorem pe_rev (he : PE X e te) (h3 : PE X e3 t3) : PE X (.Subscript e (.Slice none none (some e3) p2) pos) (tRev X.K te t3):=by
  intro pins s σ H Q I h
  refine Subscript_ (thn (he pins s σ H _ I h) fun v s1 ⟨x,H1,I1,r1,q1⟩=>?_)
  refine wpAny_Slice ?_
  rw [evalPart_none]
  refine wpAny_pure (wpAny_pure ?_)
  rw [evalPart_some]
  refine thn (h3 pins s1 σ H1 _ I1 q1) fun vs s2 ⟨y,H2,I2,r2,q2⟩=>?_
  obtain ⟨rfl,a,xs,rfl,hx,q⟩:=q2
  obtain ⟨t,rfl⟩:=r2
  cases r1
  have I4 : Inv X pins σ H2 { s2 with heap:=s2.heap.push { cls:=.type "slice",data:=.fields #[.none,.none,.int (-1) t] } }:=I2.kept (t':=s2.toks) fun b ob q=>Heap.get?_push_of_some _ q
  have hs : ({ s2 with heap:=s2.heap.push { cls:=.type "slice",data:=.fields #[.none,.none,.int (-1) t] } } : Shared).heap.IsSliceOf s2.heap.objs.size .none .none (.int (-1) t):=Heap.IsSliceOf.new ..
  obtain ⟨its,r,ht,hz⟩:=I4.list hx
  have hlen:=r.length
  show wpAny (model X.prog X.w) X.A (subscriptTail e (.Slice none none (some e3) p2) (.ref a) (.ref s2.heap.objs.size)) (EP X pins σ Q) X.xe { s2 with heap:=s2.heap.push { cls:=.type "slice",data:=.fields #[.none,.none,.int (-1) t] } }
  refine tail_any (ops:=[.ref a,.ref s2.heap.objs.size]) ht.isList.typeIs slot_list_getitem.lookup ?_ (by with_unfolding_all rfl)
  refine wpAny_getItem_list_slice ht.isList hs .none .none (.int (-1) t) (by simp) ?_ (by rw [List.size_toArray] <;> omega)
  rw [slicePick_rev]
  refine ⟨.ref _,_,I4.laid (t':=s2.toks) (o:=.lst xs.reverse) (fun b ob q=>Heap.get?_push_of_some _ q) (Nat.le_refl _) ?_,rfl,q _ (I4.hok.fresh (Nat.le_refl _))⟩
  exact ⟨by rw [List.length_reverse]; exact hz,_,0,r.reverse,Heap.get?_push_size _ rfl⟩
end
end L2
namespace L2
open PySem PySem.Spec PyProof.Rows
section
variable {X : Cx} {a : Expr} {ta : TA} {p p' pos pos' : Pos}
end
end L2
namespace L2
open PySem PySem.Spec PyProof.Rows
section
variable {X : Cx}
end
end L2
namespace L2
open PySem PySem.Spec PyProof.Rows
section
variable {κ : Type} [DecidableEq κ]
end
section
variable {P : Program} {w : World} {H : Hp} {h : Heap} {a : Addr}
end
section
variable {X : Cx} {pins : List (Addr × Obj)} {σ : St} {H : Hp} {s : Shared} {a : Addr} {y v : V} {u r : Value} {o : Option V} {A : Around} {E : Value -> Shared -> Prop}
end
section
variable {X : Cx} {pins : List (Addr × Obj)} {σ : St} {H : Hp} {s : Shared} {a : Addr} {kvs : List (Key × V)} {k : Key} {u : Value} {A : Around} {E : Value -> Shared -> Prop}
end
section
variable {X : Cx} {o i e value : Expr} {pos pos' tpos : Pos} {td ty tv : TE}
end
section
variable {X : Cx} {pos : Pos}
end
structure M1 (X : Cx) (o : Expr) (m : Str) (apos : Pos) (e : Expr) (cpos : Pos) : Prop where
  base : attributeBase o m X.env (eval o X.env) = eval o X.env
  few : ((backTo cpos (starEach [e] X.env)).all (fun x=>!x.1) && (backToKw cpos (keywordEach [] X.env)).all (fun x=>x.1.isSome)
    && decide (([e] : List Expr).length + ([] : List Keyword).length + (if ([] : List Keyword).isEmpty then 0 else 1) < 30)) = true
  line : (apos.endLine == cpos.line) = true
  trees : backTo cpos (starEach [e] X.env) = [(false,eval e X.env)]
structure M2 (X : Cx) (o : Expr) (m : Str) (apos : Pos) (e f : Expr) (cpos : Pos) : Prop where
  base : attributeBase o m X.env (eval o X.env) = eval o X.env
  few : ((backTo cpos (starEach [e,f] X.env)).all (fun x=>!x.1) && (backToKw cpos (keywordEach [] X.env)).all (fun x=>x.1.isSome)
    && decide (([e,f] : List Expr).length + ([] : List Keyword).length + (if ([] : List Keyword).isEmpty then 0 else 1) < 30)) = true
  line : (apos.endLine == cpos.line) = true
  trees : backTo cpos (starEach [e,f] X.env) = [(false,eval e X.env),(false,eval f X.env)]
section
variable {X : Cx} {pins : List (Addr × Obj)} {σ : St} {H : Hp} {s : Shared} {a : Addr} {y d : V} {u r : Value} {o : Option V} {A : Around} {E : Value -> Shared -> Prop}
end
section
variable {X : Cx} {o e f : Expr} {apos cpos : Pos} {td ty tx : TE}
end
section
variable {X : Cx} {pins : List (Addr × Obj)} {σ : St} {H : Hp} {s : Shared} {a : Addr} {kvs : List (Key × V)} {A : Around} {E : Value -> Shared -> Prop}
end
section
variable {X : Cx} {pins : List (Addr × Obj)} {σ : St} {H : Hp} {s : Shared} {a : Addr} {y : V} {u : Value} {A : Around} {E : Value -> Shared -> Prop}
end
section
variable {X : Cx}
end
end L2
namespace L2
open PySem PySem.Spec PyProof.Rows
open AutoSeq1 (wpAny_loadPart')
section
variable {prog : Program} {w : World} {A : Around} {E : Value -> Shared -> Prop} {s : Shared}
end
section
variable {prog : Program} {w : World} {A : Around} {E : Value -> Shared -> Prop} {s : Shared}
end
section
variable {X : Cx} {a : Expr} {ta : TA} {p p' pos pos' : Pos}
end
end L2
namespace L2
open PySem PySem.Spec PyProof.Rows
section
variable {prog : Program} {w : World} {A : Around} {E : Value -> Shared -> Prop} {s : Shared}
end
section
variable {X : Cx} {e e3 : Expr} {te t3 : TE} {pos p2 : Pos}
end
end L2
namespace L2
open PySem PySem.Spec PyProof.Rows
section
variable {prog : Program} {w : World} {K : Type} [DecidableEq K] {knd : KeyKind prog w K} {A : Around} {R : Result -> Shared -> Prop}
end
end L2
namespace L2
open PySem PySem.Spec PyProof.Rows
section
variable {X : Cx} {pins : List (Addr × Obj)} {σ : St} {H : Hp} {s : Shared} {a : Addr} {tg : Expr}
end
end L2
namespace L2
open PySem PySem.Spec PyProof.Rows PySem.W
section
variable (r : Nat -> Nat)
variable {r}
end
end L2
namespace L2
open PySem PySem.Spec PyProof.Rows PySem.W
section
variable {prog : Program} {w : World} {A : Around} {E : Value -> Shared -> Prop} {s : Shared}
end
end L2
namespace L2
open PySem PySem.Spec PyProof.Rows
end L2
namespace L2
open PySem PySem.Spec PyProof.Rows PySem.W
section
variable {prog : Program} {w : World} {A : Around} {E : Value -> Shared -> Prop} {s : Shared}
end
end L2
namespace L2
open PySem PySem.Spec PyProof.Rows
section
variable {X : Cx}
end
end L2
namespace L2
open PySem PySem.Spec PyProof.Rows
section
variable {prog : Program} {w : World} {A : Around} {E : Value -> Shared -> Prop} {s : Shared}
end
end L2
namespace L2
open PySem PySem.Spec PyProof.Rows PySem.W
section
variable {prog : Program} {w : World} {A : Around} {E : Value -> Shared -> Prop} {s : Shared}
end
section
variable {X : Cx}
end
end L2
namespace L2
open PySem PySem.Spec PyProof.Rows
end L2
namespace L2
open PySem PySem.Spec PyProof.Rows
end L2
namespace L2
open PySem PySem.Spec PyProof.Rows
section
variable {prog : Program} {w : World} {K : Type} [DecidableEq K]
variable {knd : KeyKind prog w K} {L : Bool} {A : Around} {E : Value -> Shared -> Prop} {s : Shared} {a : Addr}
end
end L2
namespace L2
open PySem PySem.Spec PyProof.Rows
section
variable {prog : Program} {w : World} {A : Around} {E : Value -> Shared -> Prop} {s : Shared}
end
end L2
namespace L2
open PySem PySem.Spec PyProof.Rows
section
variable {prog : Program} {w : World} {A : Around} {E : Value -> Shared -> Prop} {s : Shared}
end
end L2
namespace L2
open PySem PySem.Spec PyProof.Rows
section
variable {prog : Program} {w : World} {K : Type} [DecidableEq K] {knd : KeyKind prog w K} {A : Around} {R : Result -> Shared -> Prop}
end
end L2
namespace L2
open PySem PySem.Spec PyProof.Rows
section
variable {prog : Program} {w : World} {A : Around} {E : Value -> Shared -> Prop} {s : Shared}
end
end L2
namespace L2
open PySem PySem.Spec PyProof.Rows
section
variable {prog : Program} {w : World} {A : Around} {E : Value -> Shared -> Prop} {s : Shared}
end
end L2
namespace L2
open PySem PySem.Spec PyProof.Rows
section
variable {prog : Program} {w : World} {A : Around} {E : Value -> Shared -> Prop} {s : Shared}
end
section
variable {X : Cx}
end
end L2
namespace L2
open PySem PySem.Spec PyProof.Rows SeqAt
section
variable {prog : Program} {w : World} {K : Type} [DecidableEq K] {knd : KeyKind prog w K} {A : Around} {E : Value -> Shared -> Prop} {s : Shared}
end
section
variable {prog : Program} {w : World} {K : Type} [DecidableEq K] {knd : KeyKind prog w K} {A : Around} {E : Value -> Shared -> Prop} {s : Shared}
end
section
variable {X : Cx}
end
end L2
namespace L2
open PySem PySem.Spec PyProof.Rows SeqAt
section
variable {X : Cx}
end
end L2
namespace Sm
open PySem PySem.Spec L2
inductive PV where
  | non | bl (b : Bool) | int (i : Int) | str (x : Str) | tup (xs : List PV) | lst (xs : List PV) | fro (xs : List PV) | ref (i : Nat) | dic
inductive Cell where
  | lst (xs : List PV) | dic (kvs : List (Key × PV)) | dtp (kvs : List (List Key × PV)) | frd (kvs : List (Key × PV))
  | obj (C : Addr) (fs : List (Str × PV))
abbrev Store:=List Cell
structure Exc where
  cls : Str
  fs : Option (Str × PV):=none
inductive Res (α : Type) where
  | ok (a : α) (st : Store) | exc (x : Exc) (st : Store) | stuck
abbrev Gam:=List (Option PV)
abbrev ME:=Gam -> Store -> Res PV
structure Tk where
  tr : List Addr
  hid : List Addr
instance : Membership Addr Tk:=⟨fun t a=>a ∈ t.tr \/ a ∈ t.hid⟩
def Tk.nil : Tk:=⟨[],[]⟩
theorem Tk.not_nil (a : Addr) : a ∉ Tk.nil:=fun z=>by rcases z with z | z <;> cases z
def Tk.add (t : Tk) (p : Addr) : Tk:=⟨t.tr ++ [p],t.hid⟩
def Tk.hide (t : Tk) (p : Addr) : Tk:=⟨t.tr,p :: t.hid⟩
mutual
def Rep (H : Hp) (ρ : Tk) : PV -> V -> Prop
  | .non,v=>v = .non
  | .bl b,v=>v = .bl b
  | .int i,v=>v = .int i
  | .str x,v=>v = .str x
  | .tup ps,v=>∃ a vs,v = .ref a /\ H a = some (.tup vs) /\ a ∉ ρ /\ RepL H ρ ps vs
  | .lst ps,v=>∃ a vs,v = .ref a /\ H a = some (.lst vs) /\ a ∉ ρ /\ RepL H ρ ps vs
  | .fro ps,v=>∃ a vs,v = .ref a /\ Rd H a (.lst vs) /\ a ∉ ρ /\ RepL H ρ ps vs
  | .ref i,v=>∃ a,ρ.tr[i]? = some a /\ v = .ref a
  | .dic,v=>∃ a,v = .ref a /\ H a = some (.dK []) /\ a ∉ ρ
def RepL (H : Hp) (ρ : Tk) : List PV -> List V -> Prop
  | [],vs=>vs = []
  | p :: ps,vs=>∃ v r,vs = v :: r /\ Rep H ρ p v /\ RepL H ρ ps r
end
structure Ext (H : Hp) (ρ : Tk) (H' : Hp) (ρ' : Tk) : Prop where
  pre : ρ.tr <+: ρ'.tr
  hidM : ∀ a,a ∈ ρ.hid -> a ∈ ρ'.hid
  hidN : ∀ a,a ∈ ρ'.hid -> a ∈ ρ.hid \/ H a = none
  keep : ∀ a o,H a = some o -> a ∉ ρ.tr -> H' a = some o
  new : ∀ a,a ∈ ρ'.tr -> a ∈ ρ.tr \/ H a = none
  old : ∀ a o,H a = some o -> ∃ o',H' a = some o'
  frz : ∀ a o u,H a = some (.frz o u) -> H' a = some (.frz o u)
theorem Ext.refl (H : Hp) (ρ : Tk) : Ext H ρ H ρ:=⟨List.prefix_refl _,fun _ h=>h,fun _ h=>.inl h,fun _ _ h _=>h,fun _ h=>.inl h,fun _ o h=>⟨o,h⟩,fun _ _ _ h=>h⟩
theorem Ext.trans {H H1 H2 : Hp} {ρ ρ1 ρ2 : Tk} (a : Ext H ρ H1 ρ1) (b : Ext H1 ρ1 H2 ρ2) : Ext H ρ H2 ρ2 where
  pre:=a.pre.trans b.pre
  hidM:=fun x h=>b.hidM x (a.hidM x h)
  hidN:=fun x h=>by
    rcases b.hidN x h with z | z
    · exact a.hidN x z
    · right
      cases q : H x with
      | none=>rfl
      | some o=>
        obtain ⟨o',e⟩:=a.old x o q
        rw [e] at z; cases z
  keep:=fun x o h n=>b.keep x o (a.keep x o h n) fun z=>by
    rcases a.new x z with z | z
    · exact n z
    · rw [h] at z; cases z
  new:=fun x h=>by
    rcases b.new x h with z | z
    · exact a.new x z
    · right
      cases q : H x with
      | none=>rfl
      | some o=>
        obtain ⟨o',e⟩:=a.old x o q
        rw [e] at z; cases z
  old:=fun x o h=>by
    obtain ⟨o',e⟩:=a.old x o h
    exact b.old x o' e
  frz:=fun x o u h=>b.frz x o u (a.frz x o u h)
theorem Ext.add {H : Hp} {ρ : Tk} {p : Addr} {o : HO} (h : H p = none) : Ext H ρ (upd H p o) ρ where
  pre:=List.prefix_refl _
  hidM:=fun _ h=>h
  hidN:=fun _ h=>.inl h
  keep:=fun a u e _=>by rw [upd_ne (ne_of_none e h)]; exact e
  new:=fun a e=>.inl e
  old:=fun a u e=>⟨u,by rw [upd_ne (ne_of_none e h)]; exact e⟩
  frz:=fun a o u e=>by rw [upd_ne (ne_of_none e h)]; exact e
theorem Ext.same {H H' : Hp} {ρ : Tk} (h : Same H H') : Ext H ρ H' ρ:=⟨List.prefix_refl _,fun _ h=>h,fun _ h=>.inl h,fun a o e _=>h a o e,fun _ e=>.inl e,fun a o e=>⟨o,h a o e⟩,fun a o u e=>h a _ e⟩
section
variable {H H' : Hp} {ρ ρ' : Tk}
theorem fresh_not {a : Addr} {o : HO} (x : Ext H ρ H' ρ') (h : H a = some o) (n : a ∉ ρ) : a ∉ ρ':=fun z=>by
  rcases z with z | z
  · rcases x.new a z with z | z
    · exact n (.inl z)
    · rw [h] at z; cases z
  · rcases x.hidN a z with z | z
    · exact n (.inr z)
    · rw [h] at z; cases z
theorem Ext.kp {a : Addr} {o : HO} (x : Ext H ρ H' ρ') (h : H a = some o) (n : a ∉ ρ) : H' a = some o:=x.keep a o h fun z=>n (.inl z)
mutual
theorem Rep.ext (x : Ext H ρ H' ρ') : ∀ {p : PV} {v : V},Rep H ρ p v -> Rep H' ρ' p v
  | .non,_,h=>h
  | .bl _,_,h=>h
  | .int _,_,h=>h
  | .str _,_,h=>h
  | .tup ps,v,h=>by
    obtain ⟨a,vs,e,s,n,r⟩:=h
    exact ⟨a,vs,e,x.kp s n,fresh_not x s n,RepL.ext x r⟩
  | .lst ps,v,h=>by
    obtain ⟨a,vs,e,s,n,r⟩:=h
    exact ⟨a,vs,e,x.kp s n,fresh_not x s n,RepL.ext x r⟩
  | .fro ps,v,h=>by
    obtain ⟨a,vs,e,s,n,r⟩:=h
    rcases s with s | ⟨o,s⟩
    · exact ⟨a,vs,e,.inl (x.kp s n),fresh_not x s n,RepL.ext x r⟩
    · exact ⟨a,vs,e,.inr ⟨o,x.kp s n⟩,fresh_not x s n,RepL.ext x r⟩
  | .ref i,v,h=>by
    obtain ⟨a,e,rfl⟩:=h
    obtain ⟨t,et⟩:=x.pre
    refine ⟨a,?_,rfl⟩
    rw [<- et,List.getElem?_append_left (List.getElem?_eq_some_iff.mp e).1]
    exact e
  | .dic,v,h=>by
    obtain ⟨a,e,s,n⟩:=h
    exact ⟨a,e,x.kp s n,fresh_not x s n⟩
theorem RepL.ext (x : Ext H ρ H' ρ') : ∀ {ps : List PV} {vs : List V},RepL H ρ ps vs -> RepL H' ρ' ps vs
  | [],_,h=>h
  | p :: ps,vs,h=>by
    obtain ⟨v,r,e,h1,h2⟩:=h
    exact ⟨v,r,e,Rep.ext x h1,RepL.ext x h2⟩
end
mutual
theorem Rep.hide {a : Addr} {o : HO} (h : H a = none) : ∀ {p : PV} {v : V},Rep H ρ p v -> Rep (upd H a o) (ρ.hide a) p v
  | .non,_,r=>r
  | .bl _,_,r=>r
  | .int _,_,r=>r
  | .str _,_,r=>r
  | .tup ps,v,⟨b,vs,e,s,n,r⟩=>⟨b,vs,e,by rw [upd_ne (ne_of_none s h)]; exact s,fun z=>by
      rcases z with z | z
      · exact n (.inl z)
      · rcases List.mem_cons.mp z with z | z
        · exact ne_of_none s h z
        · exact n (.inr z),RepL.hide h r⟩
  | .lst ps,v,⟨b,vs,e,s,n,r⟩=>⟨b,vs,e,by rw [upd_ne (ne_of_none s h)]; exact s,fun z=>by
      rcases z with z | z
      · exact n (.inl z)
      · rcases List.mem_cons.mp z with z | z
        · exact ne_of_none s h z
        · exact n (.inr z),RepL.hide h r⟩
  | .fro ps,v,⟨b,vs,e,s,n,r⟩=>by
      have ne : b ≠ a:=by
        rcases s with s | ⟨_,s⟩
        · exact ne_of_none s h
        · exact ne_of_none s h
      refine ⟨b,vs,e,?_,fun z=>?_,RepL.hide h r⟩
      · rcases s with s | ⟨u,s⟩
        · exact .inl (by rw [upd_ne ne]; exact s)
        · exact .inr ⟨u,by rw [upd_ne ne]; exact s⟩
      · rcases z with z | z
        · exact n (.inl z)
        · rcases List.mem_cons.mp z with z | z
          · exact ne z
          · exact n (.inr z)
  | .ref i,v,r=>r
  | .dic,v,⟨b,e,s,n⟩=>⟨b,e,by rw [upd_ne (ne_of_none s h)]; exact s,fun z=>by
      rcases z with z | z
      · exact n (.inl z)
      · rcases List.mem_cons.mp z with z | z
        · exact ne_of_none s h z
        · exact n (.inr z)⟩
theorem RepL.hide {a : Addr} {o : HO} (h : H a = none) : ∀ {ps : List PV} {vs : List V},RepL H ρ ps vs -> RepL (upd H a o) (ρ.hide a) ps vs
  | [],_,r=>r
  | p :: ps,_,⟨v,t,e,r1,r2⟩=>⟨v,t,e,Rep.hide h r1,RepL.hide h r2⟩
end
mutual
theorem Rep.rehide {a : Addr} {o : HO} (h : a ∈ ρ.hid) : ∀ {p : PV} {v : V},Rep H ρ p v -> Rep (upd H a o) ρ p v
  | .non,_,r=>r
  | .bl _,_,r=>r
  | .int _,_,r=>r
  | .str _,_,r=>r
  | .tup ps,v,⟨b,vs,e,s,n,r⟩=>⟨b,vs,e,by rw [upd_ne (show b ≠ a from fun z=>n (.inr (by rw [z]; exact h)))]; exact s,n,RepL.rehide h r⟩
  | .lst ps,v,⟨b,vs,e,s,n,r⟩=>⟨b,vs,e,by rw [upd_ne (show b ≠ a from fun z=>n (.inr (by rw [z]; exact h)))]; exact s,n,RepL.rehide h r⟩
  | .fro ps,v,⟨b,vs,e,s,n,r⟩=>by
      have ne : b ≠ a:=fun z=>n (.inr (by rw [z]; exact h))
      refine ⟨b,vs,e,?_,n,RepL.rehide h r⟩
      rcases s with s | ⟨u,s⟩
      · exact .inl (by rw [upd_ne ne]; exact s)
      · exact .inr ⟨u,by rw [upd_ne ne]; exact s⟩
  | .ref i,v,r=>r
  | .dic,v,⟨b,e,s,n⟩=>⟨b,e,by rw [upd_ne (show b ≠ a from fun z=>n (.inr (by rw [z]; exact h)))]; exact s,n⟩
theorem RepL.rehide {a : Addr} {o : HO} (h : a ∈ ρ.hid) : ∀ {ps : List PV} {vs : List V},RepL H ρ ps vs -> RepL (upd H a o) ρ ps vs
  | [],_,r=>r
  | p :: ps,_,⟨v,t,e,r1,r2⟩=>⟨v,t,e,Rep.rehide h r1,RepL.rehide h r2⟩
end
mutual
theorem Rep.retr {a : Addr} {o : HO} (h : a ∈ ρ.tr) : ∀ {p : PV} {v : V},Rep H ρ p v -> Rep (upd H a o) ρ p v
  | .non,_,r=>r
  | .bl _,_,r=>r
  | .int _,_,r=>r
  | .str _,_,r=>r
  | .tup ps,v,⟨b,vs,e,s,n,r⟩=>⟨b,vs,e,by rw [upd_ne (show b ≠ a from fun z=>n (.inl (by rw [z]; exact h)))]; exact s,n,RepL.retr h r⟩
  | .lst ps,v,⟨b,vs,e,s,n,r⟩=>⟨b,vs,e,by rw [upd_ne (show b ≠ a from fun z=>n (.inl (by rw [z]; exact h)))]; exact s,n,RepL.retr h r⟩
  | .fro ps,v,⟨b,vs,e,s,n,r⟩=>by
      have ne : b ≠ a:=fun z=>n (.inl (by rw [z]; exact h))
      refine ⟨b,vs,e,?_,n,RepL.retr h r⟩
      rcases s with s | ⟨u,s⟩
      · exact .inl (by rw [upd_ne ne]; exact s)
      · exact .inr ⟨u,by rw [upd_ne ne]; exact s⟩
  | .ref i,v,r=>r
  | .dic,v,⟨b,e,s,n⟩=>⟨b,e,by rw [upd_ne (show b ≠ a from fun z=>n (.inl (by rw [z]; exact h)))]; exact s,n⟩
theorem RepL.retr {a : Addr} {o : HO} (h : a ∈ ρ.tr) : ∀ {ps : List PV} {vs : List V},RepL H ρ ps vs -> RepL (upd H a o) ρ ps vs
  | [],_,r=>r
  | p :: ps,_,⟨v,t,e,r1,r2⟩=>⟨v,t,e,Rep.retr h r1,RepL.retr h r2⟩
end
mutual
theorem Rep.unhide {hs : List Addr} (hh : ∀ a,a ∈ hs -> a ∈ ρ.hid) : ∀ {p : PV} {v : V},Rep H ρ p v -> Rep H ⟨ρ.tr,hs⟩ p v
  | .non,_,r=>r
  | .bl _,_,r=>r
  | .int _,_,r=>r
  | .str _,_,r=>r
  | .tup ps,v,⟨b,vs,e,s,n,r⟩=>⟨b,vs,e,s,fun z=>n (z.imp id (hh _)),RepL.unhide hh r⟩
  | .lst ps,v,⟨b,vs,e,s,n,r⟩=>⟨b,vs,e,s,fun z=>n (z.imp id (hh _)),RepL.unhide hh r⟩
  | .fro ps,v,⟨b,vs,e,s,n,r⟩=>⟨b,vs,e,s,fun z=>n (z.imp id (hh _)),RepL.unhide hh r⟩
  | .ref i,v,r=>r
  | .dic,v,⟨b,e,s,n⟩=>⟨b,e,s,fun z=>n (z.imp id (hh _))⟩
theorem RepL.unhide {hs : List Addr} (hh : ∀ a,a ∈ hs -> a ∈ ρ.hid) : ∀ {ps : List PV} {vs : List V},RepL H ρ ps vs -> RepL H ⟨ρ.tr,hs⟩ ps vs
  | [],_,r=>r
  | p :: ps,_,⟨v,t,e,r1,r2⟩=>⟨v,t,e,Rep.unhide hh r1,RepL.unhide hh r2⟩
end
theorem RepL.length : ∀ {ps : List PV} {vs : List V},RepL H ρ ps vs -> ps.length = vs.length
  | [],_,h=>by cases h; rfl
  | p :: ps,_,⟨v,r,rfl,_,h2⟩=>by rw [List.length_cons,List.length_cons,RepL.length h2]
theorem RepL.get : ∀ {ps : List PV} {vs : List V} {i : Nat} {p : PV},RepL H ρ ps vs -> ps[i]? = some p -> ∃ v,vs[i]? = some v /\ Rep H ρ p v
  | [],_,_,_,_,e=>by simp at e
  | p :: ps,_,0,q,⟨v,r,rfl,h1,h2⟩,e=>by simp at e; subst e; exact ⟨v,rfl,h1⟩
  | p :: ps,_,i + 1,q,⟨v,r,rfl,h1,h2⟩,e=>by
    obtain ⟨u,e1,e2⟩:=RepL.get (i:=i) h2 (by simpa using e)
    exact ⟨u,by simpa using e1,e2⟩
theorem RepL.cons {p : PV} {v : V} {ps : List PV} {vs : List V} (h : Rep H ρ p v) (r : RepL H ρ ps vs) : RepL H ρ (p :: ps) (v :: vs):=⟨v,vs,rfl,h,r⟩
theorem RepL.nil : RepL H ρ [] []:=rfl
theorem RepL.append : ∀ {ps qs : List PV} {vs us : List V},RepL H ρ ps vs -> RepL H ρ qs us -> RepL H ρ (ps ++ qs) (vs ++ us)
  | [],_,_,_,h,g=>by cases h; exact g
  | p :: ps,_,_,_,⟨v,r,rfl,h1,h2⟩,g=>⟨v,_,rfl,h1,RepL.append h2 g⟩
theorem RepL.take : ∀ {ps : List PV} {vs : List V} (n : Nat),RepL H ρ ps vs -> RepL H ρ (ps.take n) (vs.take n)
  | _,_,0,_=>rfl
  | [],_,n + 1,h=>by cases h; rfl
  | p :: ps,_,n + 1,⟨v,r,rfl,h1,h2⟩=>⟨v,_,rfl,h1,RepL.take n h2⟩
theorem RepL.drop : ∀ {ps : List PV} {vs : List V} (n : Nat),RepL H ρ ps vs -> RepL H ρ (ps.drop n) (vs.drop n)
  | _,_,0,h=>h
  | [],_,n + 1,h=>by cases h; rfl
  | p :: ps,_,n + 1,⟨v,r,rfl,h1,h2⟩=>RepL.drop n h2
theorem RepL.set {p : PV} {v : V} (h : Rep H ρ p v) : ∀ {ps : List PV} {vs : List V} (i : Nat),RepL H ρ ps vs -> RepL H ρ (ps.set i p) (vs.set i v)
  | [],_,_,g=>by cases g; rfl
  | q :: ps,_,0,⟨u,r,rfl,h1,h2⟩=>⟨v,r,rfl,h,h2⟩
  | q :: ps,_,i + 1,⟨u,r,rfl,h1,h2⟩=>⟨u,_,rfl,h1,RepL.set h i h2⟩
theorem RepL.reverse : ∀ {ps : List PV} {vs : List V},RepL H ρ ps vs -> RepL H ρ ps.reverse vs.reverse
  | [],_,g=>by cases g; rfl
  | q :: ps,_,⟨u,r,rfl,h1,h2⟩=>by rw [List.reverse_cons,List.reverse_cons]; exact (RepL.reverse h2).append (RepL.cons h1 RepL.nil)
theorem RepL.rep {ps : List PV} {vs : List V} (h : RepL H ρ ps vs) : ∀ n,RepL H ρ (List.replicate n ps).flatten (List.replicate n vs).flatten
  | 0=>rfl
  | n + 1=>by rw [List.replicate_succ,List.replicate_succ,List.flatten_cons,List.flatten_cons]; exact h.append (RepL.rep h n)
theorem RepL.toInts : ∀ {ns : List Int} {vs : List V},RepL H ρ (ns.map .int) vs -> vs = ns.map V.int
  | [],_,h=>h
  | n :: ns,_,⟨v,r,rfl,h1,h2⟩=>by
    have e : v = V.int n:=h1
    rw [RepL.toInts h2,e]; rfl
theorem RepL.toBls : ∀ {ns : List Bool} {vs : List V},RepL H ρ (ns.map .bl) vs -> vs = ns.map V.bl
  | [],_,h=>h
  | n :: ns,_,⟨v,r,rfl,h1,h2⟩=>by
    have e : v = V.bl n:=h1
    rw [RepL.toBls h2,e]; rfl
end
def RepD {κ : Type} (H : Hp) (ρ : Tk) (kvs : List (κ × PV)) (vs : List (κ × V)) : Prop:=vs.map Prod.fst = kvs.map Prod.fst /\ RepL H ρ (kvs.map Prod.snd) (vs.map Prod.snd)
theorem RepD.ext {κ : Type} {H H' : Hp} {ρ ρ' : Tk} {kvs : List (κ × PV)} {vs : List (κ × V)} (x : Ext H ρ H' ρ') (r : RepD H ρ kvs vs) : RepD H' ρ' kvs vs:=⟨r.1,r.2.ext x⟩
def CellR (H : Hp) (ρ : Tk) (a : Addr) : Cell -> Prop
  | .lst ps=>∃ vs,H a = some (.lst vs) /\ RepL H ρ ps vs
  | .dic kvs=>∃ vs,H a = some (.dK vs) /\ RepD H ρ kvs vs
  | .dtp kvs=>∃ vs,H a = some (.dT vs) /\ RepD H ρ kvs vs
  | .frd kvs=>∃ vs,(∃ o,H a = some (.frz o (.dK vs))) /\ RepD H ρ kvs vs
  | .obj C fs=>∃ vs,(∃ dx,H a = some (.ins C dx vs)) /\ RepD H ρ fs vs
theorem CellR.dom {H : Hp} {ρ : Tk} {a : Addr} : ∀ {c : Cell},CellR H ρ a c -> ∃ o,H a = some o
  | .lst _,⟨_,e,_⟩=>⟨_,e⟩
  | .dic _,⟨_,e,_⟩=>⟨_,e⟩
  | .dtp _,⟨_,e,_⟩=>⟨_,e⟩
  | .frd _,⟨_,⟨_,e⟩,_⟩=>⟨_,e⟩
  | .obj _ _,⟨_,⟨_,e⟩,_⟩=>⟨_,e⟩
theorem CellR.ext {H H' : Hp} {ρ ρ' : Tk} {a : Addr} (x : Ext H ρ H' ρ') (k : ∀ o,H a = some o -> H' a = some o) : ∀ {c : Cell},CellR H ρ a c -> CellR H' ρ' a c
  | .lst _,⟨vs,e,r⟩=>⟨vs,k _ e,r.ext x⟩
  | .dic _,⟨vs,e,r⟩=>⟨vs,k _ e,r.ext x⟩
  | .dtp _,⟨vs,e,r⟩=>⟨vs,k _ e,r.ext x⟩
  | .frd _,⟨vs,⟨o,e⟩,r⟩=>⟨vs,⟨o,k _ e⟩,r.ext x⟩
  | .obj _ _,⟨vs,⟨o,e⟩,r⟩=>⟨vs,⟨o,k _ e⟩,r.ext x⟩
structure Rel (H : Hp) (ρ : Tk) (st : Store) : Prop where
  len : ρ.tr.length = st.length
  nd : ρ.tr.Nodup
  hd : ∀ a ∈ ρ.hid,∃ o,H a = some o /\ ∀ xs,o ≠ .tup xs
  ap : ∀ a ∈ ρ.hid,a ∉ ρ.tr
  cell : ∀ (i : Nat) (a : Addr) (c : Cell),ρ.tr[i]? = some a -> st[i]? = some c -> CellR H ρ a c
section
variable {H H' : Hp} {ρ ρ' : Tk} {st st' : Store}
theorem Rel.lst (R : Rel H ρ st) {i : Nat} {ps : List PV} (h : st[i]? = some (.lst ps)) : ∃ a vs,ρ.tr[i]? = some a /\ H a = some (.lst vs) /\ RepL H ρ ps vs:=by
  have hi : i < ρ.tr.length:=by rw [R.len]; exact (List.getElem?_eq_some_iff.mp h).1
  have e : ρ.tr[i]? = some ρ.tr[i]:=List.getElem?_eq_getElem hi
  obtain ⟨vs,e1,e2⟩:=R.cell i _ _ e h
  exact ⟨_,vs,e,e1,e2⟩
theorem Rel.dom (R : Rel H ρ st) {a : Addr} (h : a ∈ ρ.tr) : ∃ o,H a = some o:=by
  obtain ⟨i,hi,e⟩:=List.getElem_of_mem h
  have hs : i < st.length:=by rw [<- R.len]; exact hi
  have q:=R.cell i a st[i] (by rw [List.getElem?_eq_getElem hi,e]) (List.getElem?_eq_getElem hs)
  exact q.dom
theorem Rel.fresh (R : Rel H ρ st) {p : Addr} (h : H p = none) : p ∉ ρ:=fun z=>by
  rcases z with z | z
  · obtain ⟨vs,q⟩:=R.dom z
    rw [h] at q; cases q
  · obtain ⟨o,q,_⟩:=R.hd p z
    rw [h] at q; cases q
theorem Rel.later (R : Rel H ρ st) (x : Ext H ρ H' ρ) (k : ∀ a o,a ∈ ρ.tr -> H a = some o -> H' a = some o) : Rel H' ρ st where
  len:=R.len
  nd:=R.nd
  hd:=fun a ha=>let ⟨o,e,n⟩:=R.hd a ha; ⟨o,x.keep a o e (R.ap a ha),n⟩
  ap:=R.ap
  cell:=fun i a c h1 h2=>by
    exact (R.cell i a c h1 h2).ext x fun o e=>k a o (List.mem_of_getElem? h1) e
end
theorem Rel.add {H : Hp} {ρ : Tk} {st : Store} (R : Rel H ρ st) {p : Addr} {o : HO} (h : H p = none) : Rel (upd H p o) ρ st:=
  R.later (Ext.add h) fun a u hm e=>by rw [upd_ne (ne_of_none e h)]; exact e
theorem Rel.same {H H' : Hp} {ρ : Tk} {st : Store} (R : Rel H ρ st) (h : Same H H') : Rel H' ρ st:=R.later (Ext.same h) fun a u _ e=>h a u e
theorem nodup_inj {α : Type} {l : List α} (h : l.Nodup) {i j : Nat} (hi : i < l.length) (hj : j < l.length) (e : l[i] = l[j]) : i = j:=by
  rcases Nat.lt_trichotomy i j with z | z | z
  · exact absurd e ((List.pairwise_iff_getElem.mp h) i j hi hj z)
  · exact z
  · exact absurd e.symm ((List.pairwise_iff_getElem.mp h) j i hj hi z)
theorem Ext.put {H : Hp} {ρ : Tk} {a : Addr} {o o' : HO} (h : a ∈ ρ.tr) (e : H a = some o) (nf : ∀ q u,o ≠ .frz q u:=by intro _ _ z; cases z) : Ext H ρ (upd H a o') ρ where
  pre:=List.prefix_refl _
  hidM:=fun _ h=>h
  hidN:=fun _ h=>.inl h
  keep:=fun b u q n=>by rw [upd_ne (show b ≠ a from fun z=>n (by rw [z]; exact h))]; exact q
  new:=fun b q=>.inl q
  old:=fun b u q=>by
    by_cases z : b = a
    · exact ⟨o',by rw [z]; exact upd_same⟩
    · exact ⟨u,by rw [upd_ne z]; exact q⟩
  frz:=fun b q u k=>by
    by_cases z : b = a
    · rw [z,e] at k; cases k; exact absurd rfl (nf _ _)
    · rw [upd_ne z]; exact k
theorem Rel.putC {H : Hp} {ρ : Tk} {st : Store} (R : Rel H ρ st) {i : Nat} {a : Addr} {cl : Cell} {o o' : HO} (hi : ρ.tr[i]? = some a) (e : H a = some o) (r : CellR (upd H a o') ρ a cl) : Rel (upd H a o') ρ (st.set i cl) where
  len:=by rw [List.length_set]; exact R.len
  nd:=R.nd
  hd:=fun b hb=>let ⟨u,q,n⟩:=R.hd b hb; ⟨u,by rw [upd_ne (show b ≠ a from fun z=>R.ap b hb (by rw [z]; exact List.mem_of_getElem? hi))]; exact q,n⟩
  ap:=R.ap
  cell:=fun j b c h1 h2=>by
    by_cases hj : i = j
    · subst hj
      rw [hi] at h1; cases h1
      rw [List.getElem?_set_self (by rw [<- R.len]; exact (List.getElem?_eq_some_iff.mp hi).1)] at h2
      cases h2
      exact r
    · rw [List.getElem?_set_ne hj] at h2
      have q:=R.cell j b c h1 h2
      have hb : b ≠ a:=fun z=>by
        subst z
        have l1:=(List.getElem?_eq_some_iff.mp hi)
        have l2:=(List.getElem?_eq_some_iff.mp h1)
        exact hj (nodup_inj R.nd l1.1 l2.1 (l1.2.trans l2.2.symm))
      have hm:=List.mem_of_getElem? hi
      cases c with
      | lst ps=>
        obtain ⟨vs,e1,e2⟩:=q
        exact ⟨vs,by rw [upd_ne hb]; exact e1,e2.retr hm⟩
      | dic ps=>
        obtain ⟨vs,e1,e2⟩:=q
        exact ⟨vs,by rw [upd_ne hb]; exact e1,e2.1,e2.2.retr hm⟩
      | dtp ps=>
        obtain ⟨vs,e1,e2⟩:=q
        exact ⟨vs,by rw [upd_ne hb]; exact e1,e2.1,e2.2.retr hm⟩
      | frd ps=>
        obtain ⟨vs,⟨oo,e1⟩,e2⟩:=q
        exact ⟨vs,⟨oo,by rw [upd_ne hb]; exact e1⟩,e2.1,e2.2.retr hm⟩
      | obj C ps=>
        obtain ⟨vs,⟨oo,e1⟩,e2⟩:=q
        exact ⟨vs,⟨oo,by rw [upd_ne hb]; exact e1⟩,e2.1,e2.2.retr hm⟩
theorem Rel.put {H : Hp} {ρ : Tk} {st : Store} (R : Rel H ρ st) {i : Nat} {a : Addr} {ps : List PV} {vs : List V} {o : HO} (hi : ρ.tr[i]? = some a) (e : H a = some o) (r : RepL H ρ ps vs) : Rel (upd H a (.lst vs)) ρ (st.set i (.lst ps)):=
  R.putC hi e ⟨vs,upd_same,r.retr (List.mem_of_getElem? hi)⟩
theorem Rel.hide {H : Hp} {ρ : Tk} {st : Store} (R : Rel H ρ st) {p : Addr} {o : HO} (h : H p = none) (nt : ∀ xs,o ≠ .tup xs:=by intro _ z; cases z) : Rel (upd H p o) (ρ.hide p) st:=by
  have x : Ext H ρ (upd H p o) ρ:=Ext.add h
  have R':=R.add (p:=p) (o:=o) h
  refine ⟨R'.len,R'.nd,fun a ha=>?_,fun a ha z=>?_,fun i a c h1 h2=>?_⟩
  · rcases List.mem_cons.mp ha with rfl | ha
    · exact ⟨o,upd_same,nt⟩
    · exact R'.hd a ha
  · rcases List.mem_cons.mp ha with rfl | ha
    · exact R.fresh h (.inl z)
    · exact R.ap a ha z
  · have q:=R.cell i a c h1 h2
    cases c with
    | lst ps=>
      obtain ⟨vs,e1,e2⟩:=q
      exact ⟨vs,by rw [upd_ne (ne_of_none e1 h)]; exact e1,e2.hide h⟩
    | dic ps=>
      obtain ⟨vs,e1,e2⟩:=q
      exact ⟨vs,by rw [upd_ne (ne_of_none e1 h)]; exact e1,e2.1,e2.2.hide h⟩
    | dtp ps=>
      obtain ⟨vs,e1,e2⟩:=q
      exact ⟨vs,by rw [upd_ne (ne_of_none e1 h)]; exact e1,e2.1,e2.2.hide h⟩
    | frd ps=>
      obtain ⟨vs,⟨oo,e1⟩,e2⟩:=q
      exact ⟨vs,⟨oo,by rw [upd_ne (ne_of_none e1 h)]; exact e1⟩,e2.1,e2.2.hide h⟩
    | obj C ps=>
      obtain ⟨vs,⟨oo,e1⟩,e2⟩:=q
      exact ⟨vs,⟨oo,by rw [upd_ne (ne_of_none e1 h)]; exact e1⟩,e2.1,e2.2.hide h⟩
theorem Rel.rehide {H : Hp} {ρ : Tk} {st : Store} (R : Rel H ρ st) {p : Addr} {o : HO} (h : p ∈ ρ.hid) (nt : ∀ xs,o ≠ .tup xs:=by intro _ z; cases z) : Rel (upd H p o) ρ st:=by
  refine ⟨R.len,R.nd,fun a ha=>?_,R.ap,fun i a c h1 h2=>?_⟩
  · by_cases e : a = p
    · exact ⟨o,by rw [e]; exact upd_same,nt⟩
    · obtain ⟨u,q,n⟩:=R.hd a ha
      exact ⟨u,by rw [upd_ne e]; exact q,n⟩
  · have q:=R.cell i a c h1 h2
    have ne : a ≠ p:=fun z=>R.ap p h (by rw [<- z]; exact List.mem_of_getElem? h1)
    cases c with
    | lst ps=>
      obtain ⟨vs,e1,e2⟩:=q
      exact ⟨vs,by rw [upd_ne ne]; exact e1,e2.rehide h⟩
    | dic ps=>
      obtain ⟨vs,e1,e2⟩:=q
      exact ⟨vs,by rw [upd_ne ne]; exact e1,e2.1,e2.2.rehide h⟩
    | dtp ps=>
      obtain ⟨vs,e1,e2⟩:=q
      exact ⟨vs,by rw [upd_ne ne]; exact e1,e2.1,e2.2.rehide h⟩
    | frd ps=>
      obtain ⟨vs,⟨oo,e1⟩,e2⟩:=q
      exact ⟨vs,⟨oo,by rw [upd_ne ne]; exact e1⟩,e2.1,e2.2.rehide h⟩
    | obj C ps=>
      obtain ⟨vs,⟨oo,e1⟩,e2⟩:=q
      exact ⟨vs,⟨oo,by rw [upd_ne ne]; exact e1⟩,e2.1,e2.2.rehide h⟩
theorem Rel.unhide {H : Hp} {ρ : Tk} {st : Store} {hs : List Addr} (hh : ∀ a,a ∈ hs -> a ∈ ρ.hid) (R : Rel H ρ st) : Rel H ⟨ρ.tr,hs⟩ st:=by
  refine ⟨R.len,R.nd,fun a ha=>R.hd a (hh a ha),fun a ha=>R.ap a (hh a ha),fun i a c h1 h2=>?_⟩
  have q:=R.cell i a c h1 h2
  cases c with
  | lst ps=>
    obtain ⟨vs,e1,e2⟩:=q
    exact ⟨vs,e1,RepL.unhide hh e2⟩
  | dic ps=>
    obtain ⟨vs,e1,e2⟩:=q
    exact ⟨vs,e1,e2.1,RepL.unhide hh e2.2⟩
  | dtp ps=>
    obtain ⟨vs,e1,e2⟩:=q
    exact ⟨vs,e1,e2.1,RepL.unhide hh e2.2⟩
  | frd ps=>
    obtain ⟨vs,e1,e2⟩:=q
    exact ⟨vs,e1,e2.1,RepL.unhide hh e2.2⟩
  | obj C ps=>
    obtain ⟨vs,e1,e2⟩:=q
    exact ⟨vs,e1,e2.1,RepL.unhide hh e2.2⟩
theorem Ext.hide {H : Hp} {ρ : Tk} {p : Addr} {o : HO} (h : H p = none) : Ext H ρ (upd H p o) (ρ.hide p) where
  pre:=List.prefix_refl _
  hidM:=fun _ h=>List.mem_cons_of_mem _ h
  hidN:=fun a ha=>by
    rcases List.mem_cons.mp ha with rfl | ha
    · exact .inr h
    · exact .inl ha
  keep:=fun a u e _=>by rw [upd_ne (ne_of_none e h)]; exact e
  new:=fun a e=>.inl e
  old:=fun a u e=>⟨u,by rw [upd_ne (ne_of_none e h)]; exact e⟩
  frz:=fun a o u e=>by rw [upd_ne (ne_of_none e h)]; exact e
theorem Ext.put0 {H H1 : Hp} {ρ ρ1 : Tk} {p : Addr} {o : HO} (x : Ext H ρ H1 ρ1) (h : H p = none) : Ext H ρ (upd H1 p o) ρ1 where
  pre:=x.pre
  hidM:=x.hidM
  hidN:=x.hidN
  keep:=fun a u e n=>by rw [upd_ne (ne_of_none e h)]; exact x.keep a u e n
  new:=x.new
  old:=fun a u e=>by rw [upd_ne (ne_of_none e h)]; exact x.old a u e
  frz:=fun a o u e=>by rw [upd_ne (ne_of_none e h)]; exact x.frz a o u e
theorem Ext.unhide {H H1 : Hp} {ρ ρ1 : Tk} (x : Ext H ρ H1 ρ1) : Ext H ρ H1 ⟨ρ1.tr,ρ.hid⟩ where
  pre:=x.pre
  hidM:=fun _ h=>h
  hidN:=fun _ h=>.inl h
  keep:=x.keep
  new:=x.new
  old:=x.old
  frz:=x.frz
def EnvR (H : Hp) (ρ : Tk) (Γ : Gam) (σ : St) : Prop:=Γ.length = σ.length /\ ∀ (i : Nat) (p : PV),Γ[i]? = some (some p) -> ∃ v,σ[i]? = some (some v) /\ Rep H ρ p v
theorem EnvR.ext {H H' : Hp} {ρ ρ' : Tk} {Γ : Gam} {σ : St} (x : Ext H ρ H' ρ') (h : EnvR H ρ Γ σ) : EnvR H' ρ' Γ σ:=
  ⟨h.1,fun i p e=>let ⟨v,a,b⟩:=h.2 i p e; ⟨v,a,b.ext x⟩⟩
theorem EnvR.hide {H : Hp} {ρ : Tk} {Γ : Gam} {σ : St} {a : Addr} {o : HO} (n : H a = none) (h : EnvR H ρ Γ σ) : EnvR (upd H a o) (ρ.hide a) Γ σ:=⟨h.1,fun i p e=>let ⟨v,a,b⟩:=h.2 i p e; ⟨v,a,b.hide n⟩⟩
theorem EnvR.rehide {H : Hp} {ρ : Tk} {Γ : Gam} {σ : St} {a : Addr} {o : HO} (n : a ∈ ρ.hid) (h : EnvR H ρ Γ σ) : EnvR (upd H a o) ρ Γ σ:=⟨h.1,fun i p e=>let ⟨v,a,b⟩:=h.2 i p e; ⟨v,a,b.rehide n⟩⟩
theorem EnvR.set {H : Hp} {ρ : Tk} {Γ : Gam} {σ : St} {p : PV} {v : V} (h : EnvR H ρ Γ σ) (r : Rep H ρ p v) (i : Nat) : EnvR H ρ (Γ.set i (some p)) (σ.set i (some v)):=by
  refine ⟨by rw [List.length_set,List.length_set]; exact h.1,fun j q e=>?_⟩
  rw [List.getElem?_set] at e
  rw [List.getElem?_set]
  by_cases hj : i = j
  · subst hj
    simp only [if_true] at e ⊢
    by_cases hl : i < Γ.length
    · rw [if_pos hl] at e; cases e
      rw [if_pos (by rw [<- h.1]; exact hl)]
      exact ⟨v,rfl,r⟩
    · rw [if_neg hl] at e; cases e
  · rw [if_neg hj] at e ⊢
    exact h.2 j q e
end Sm
namespace Sm
open PySem PySem.Spec L2
def Res.bind {α β : Type} (r : Res α) (f : α -> Store -> Res β) : Res β:=match r with
  | .ok a st=>f a st
  | .exc x st=>.exc x st
  | .stuck=>.stuck
def okO {α : Type} (st : Store) : Option α -> Res α
  | some a=>.ok a st
  | none=>.stuck
section
variable (X : Cx)
def WE (e : Expr) : TE:=fun σ H Q=>∀ (pins : List (Addr × Obj)) (s : Shared),Inv X pins σ H s -> wpAny (model X.prog X.w) X.A (eval e X.env) (EP X pins σ Q) X.xe s
def WT (e : Expr) : TT:=fun σ H Q=>∀ (pins : List (Addr × Obj)) (s : Shared),Inv X pins σ H s -> wpAny (model X.prog X.w) X.A (isTrue e X.env (eval e X.env)) (TP X pins σ Q) X.xe s
def WW (e : Expr) : TT:=fun σ H Q=>∀ (wh : Sem Value) (pins : List (Addr × Obj)) (s : Shared),Inv X pins σ H s -> wpAny (model X.prog X.w) X.A (isTrue e X.env wh) (TP X pins σ Q) X.xe s
def WA (es : List Expr) : TA:=fun σ H Q=>∀ (pos : Pos) (pins : List (Addr × Obj)) (s : Shared),Inv X pins σ H s -> wpAny (model X.prog X.w) X.A (spliced (backTo pos (starEach es X.env))) (AP X pins σ Q) X.xe s
def WS (st : Stmt) : TS:=fun D σ H=>∀ (pins : List (Addr × Obj)) (s : Shared),Inv X pins σ H s -> wpAny (model X.prog X.w) X.A (exec st X.env) (SP X pins D) X.xe s
def WB (st : List Stmt) : TS:=fun D σ H=>∀ (pins : List (Addr × Obj)) (s : Shared),Inv X pins σ H s -> wpAny (model X.prog X.w) X.A (execs st X.env) (SP X pins D) X.xe s
def WI (tg iter : Expr) : TI := fun σ H R => ∀ (pins : List (Addr × Obj)) (s : Shared), Inv X pins σ H s ->
    wpAny (model X.prog X.w) X.A (eval iter X.env) (fun v s1=>wpAny (model X.prog X.w) X.A (pyIter v) (PIE X pins σ tg R) X.xe s1) X.xe s
def WO (f : Value -> Value -> Sem Value) : R2:=fun x y H Q=>∀ (pins : List (Addr × Obj)) (s : Shared) (σ : St) (v u : Value),Inv X pins σ H s -> RelV x v -> RelV y u -> wpAny (model X.prog X.w) X.A (f v u) (EP X pins σ Q) X.xe s
def WC (f : Value) : List V -> Hp -> VK -> Prop:=fun xs H Q=>∀ (pins : List (Addr × Obj)) (s : Shared) (σ : St) (us : List Value),Inv X pins σ H s -> Vals xs us -> wpAny (model X.prog X.w) X.A (call f us) (EP X pins σ Q) X.xe s
end
section
variable {X : Cx}
theorem pe_w {e : Expr} : PE X e (WE X e):=fun pins s _ _ _ I h=>h pins s I
theorem pt_w {e : Expr} : PT X e (WT X e):=fun pins s _ _ _ I h=>h pins s I
theorem pw_w {e : Expr} : PW X e (WW X e):=fun wh pins s _ _ _ I h=>h wh pins s I
theorem pa_w {es : List Expr} : PA X es (WA X es):=fun pos pins s _ _ _ I h=>h pos pins s I
theorem ps_w {st : Stmt} : PS X st (WS X st):=fun pins s _ _ _ I h=>h pins s I
theorem pss_w {st : List Stmt} : PSs X st (WB X st):=fun pins s _ _ _ I h=>h pins s I
theorem pi_w {tg iter : Expr} : PI X tg iter (WI X tg iter):=fun pins s _ _ _ I h=>h pins s I
theorem op_w {f : Value -> Value -> Sem Value} : OpR X f (WO X f):=fun pins s σ _ _ _ v u _ I r1 r2 h=>h pins s σ v u I r1 r2
theorem call_w {f : Value} : CallR X f (WC X f):=fun pins s σ _ _ us _ I r h=>h pins s σ us I r
theorem WE.of {e : Expr} {t : TE} {σ : St} {H : Hp} {Q : VK} (h : PE X e t) (q : t σ H Q) : WE X e σ H Q:=fun pins s I=>h pins s σ H Q I q
theorem WT.of {e : Expr} {t : TT} {σ : St} {H : Hp} {Q : Bool -> Hp -> Prop} (h : PT X e t) (q : t σ H Q) : WT X e σ H Q:=fun pins s I=>h pins s σ H Q I q
theorem WW.of {e : Expr} {t : TT} {σ : St} {H : Hp} {Q : Bool -> Hp -> Prop} (h : PW X e t) (q : t σ H Q) : WW X e σ H Q:=fun wh pins s I=>h wh pins s σ H Q I q
theorem WA.of {es : List Expr} {t : TA} {σ : St} {H : Hp} {Q : List V -> Hp -> Prop} (h : PA X es t) (q : t σ H Q) : WA X es σ H Q:=fun pos pins s I=>h pos pins s σ H Q I q
theorem WS.of {st : Stmt} {t : TS} {σ : St} {H : Hp} {D : Ends} (h : PS X st t) (q : t D σ H) : WS X st D σ H:=fun pins s I=>h pins s σ H D I q
theorem WB.of {st : List Stmt} {t : TS} {σ : St} {H : Hp} {D : Ends} (h : PSs X st t) (q : t D σ H) : WB X st D σ H:=fun pins s I=>h pins s σ H D I q
theorem WI.of {tg iter : Expr} {t : TI} {σ : St} {H : Hp} {R : It -> Hp -> Prop} (h : PI X tg iter t) (q : t σ H R) : WI X tg iter σ H R:=fun pins s I=>h pins s σ H R I q
theorem WO.of {f : Value -> Value -> Sem Value} {r : R2} {x y : V} {H : Hp} {Q : VK} (h : OpR X f r) (q : r x y H Q) : WO X f x y H Q:=fun pins s σ v u I r1 r2=>h pins s σ H x y v u Q I r1 r2 q
theorem WC.of {f : Value} {r : List V -> Hp -> VK -> Prop} {xs : List V} {H : Hp} {Q : VK} (h : CallR X f r) (q : r xs H Q) : WC X f xs H Q:=fun pins s σ us I r1=>h pins s σ H xs us Q I r1 q
end
def XFs (H : Hp) (ρ : Tk) : Option (Str × PV) -> Option Addr -> Prop
  | none,dv=>dv = none
  | some (n,p),dv=>∃ dx v,dv = some dx /\ H dx = some (.xd [(n,v)]) /\ dx ∉ ρ /\ Rep H ρ p v
def Acc {α : Type} (mg : Str -> Option Value) (E : XK) (H : Hp) (ρ : Tk) (P : α -> Store -> Hp -> Tk -> Prop) : Res α -> Prop
  | .ok a st=>∀ H' ρ',Ext H ρ H' ρ' -> Rel H' ρ' st -> P a st H' ρ'
  | .exc x st=>∀ C dv H' ρ',mg x.cls = some (.ref C) -> Ext H ρ H' ρ' -> Rel H' ρ' st -> XFs H' ρ' x.fs dv -> E (.ref C) dv H'
  | .stuck=>False
section
variable {α β : Type} {mg : Str -> Option Value} {E : XK} {H H1 : Hp} {ρ ρ1 : Tk}
theorem Acc.mono {P P' : α -> Store -> Hp -> Tk -> Prop} {r : Res α} (h : Acc mg E H ρ P r) (x : Ext H ρ H1 ρ1) (k : ∀ a st H' ρ',P a st H' ρ' -> P' a st H' ρ') : Acc mg E H1 ρ1 P' r:=by
  cases r with
  | ok a st=>exact fun H' ρ' x' R'=>k _ _ _ _ (h H' ρ' (x.trans x') R')
  | exc e st=>exact fun C dv H' ρ' m x' R' f=>h C dv H' ρ' m (x.trans x') R' f
  | stuck=>exact h
theorem Acc.later {P : α -> Store -> Hp -> Tk -> Prop} {r : Res α} (h : Acc mg E H ρ P r) (x : Ext H ρ H1 ρ1) : Acc mg E H1 ρ1 P r:=h.mono x fun _ _ _ _ p=>p
theorem Acc.bind {P : β -> Store -> Hp -> Tk -> Prop} {r : Res α} {f : α -> Store -> Res β} (h : Acc mg E H ρ P (r.bind f)) : Acc mg E H ρ (fun a st1 H1 ρ1=>Acc mg E H1 ρ1 P (f a st1)) r:=by
  cases r with
  | ok a st=>exact fun H' ρ' x' R'=>Acc.later (show Acc mg E H ρ P (f a st) from h) x'
  | exc e st=>exact h
  | stuck=>exact h
end
abbrev QV (Q : VK) : PV -> Store -> Hp -> Tk -> Prop:=fun p _ H' ρ'=>∀ v,Rep H' ρ' p v -> Q v H'
abbrev QL (Q : List V -> Hp -> Prop) : List PV -> Store -> Hp -> Tk -> Prop:=fun ps _ H' ρ'=>∀ vs,RepL H' ρ' ps vs -> Q vs H'
abbrev QB (Q : Bool -> Hp -> Prop) : Bool -> Store -> Hp -> Tk -> Prop:=fun b _ H' _=>Q b H'
structure SimE (X : Cx) (E : XK) (e : Expr) (m : ME) : Prop where
  run : ∀ (Γ : Gam) (σ : St) (H : Hp) (ρ : Tk) (st : Store) (Q : VK),Rel H ρ st -> EnvR H ρ Γ σ -> Acc X.mg E H ρ (QV Q) (m Γ st) -> WE X e σ H Q
structure SimT (X : Cx) (E : XK) (e : Expr) (m : Gam -> Store -> Res Bool) : Prop where
  run : ∀ (Γ : Gam) (σ : St) (H : Hp) (ρ : Tk) (st : Store) (Q : Bool -> Hp -> Prop),Rel H ρ st -> EnvR H ρ Γ σ -> Acc X.mg E H ρ (QB Q) (m Γ st) -> WT X e σ H Q
structure SimW (X : Cx) (E : XK) (e : Expr) (m : Gam -> Store -> Res Bool) : Prop where
  run : ∀ (Γ : Gam) (σ : St) (H : Hp) (ρ : Tk) (st : Store) (Q : Bool -> Hp -> Prop),Rel H ρ st -> EnvR H ρ Γ σ -> Acc X.mg E H ρ (QB Q) (m Γ st) -> WW X e σ H Q
structure SimA (X : Cx) (E : XK) (es : List Expr) (m : Gam -> Store -> Res (List PV)) : Prop where
  run : ∀ (Γ : Gam) (σ : St) (H : Hp) (ρ : Tk) (st : Store) (Q : List V -> Hp -> Prop),Rel H ρ st -> EnvR H ρ Γ σ -> Acc X.mg E H ρ (QL Q) (m Γ st) -> WA X es σ H Q
abbrev OP:=Store -> PV -> PV -> Res PV
structure OpS (X : Cx) (E : XK) (f : Value -> Value -> Sem Value) (o : OP) : Prop where
  run : ∀ (H : Hp) (ρ : Tk) (st : Store) (p q : PV) (x y : V) (Q : VK),Rel H ρ st -> Rep H ρ p x -> Rep H ρ q y -> Acc X.mg E H ρ (QV Q) (o st p q) -> WO X f x y H Q
abbrev CF:=Store -> List PV -> Res PV
structure CallS (X : Cx) (E : XK) (f : Value) (o : CF) : Prop where
  run : ∀ (H : Hp) (ρ : Tk) (st : Store) (ps : List PV) (xs : List V) (Q : VK),Rel H ρ st -> RepL H ρ ps xs -> Acc X.mg E H ρ (QV Q) (o st ps) -> WC X f xs H Q
section
variable {X : Cx} {E : XK} {Γ : Gam} {σ : St} {H : Hp} {ρ : Tk} {st : Store}
theorem SimE.use {e : Expr} {m : ME} (s : SimE X E e m) {P : PV -> Store -> Hp -> Tk -> Prop} {Q : VK} (R : Rel H ρ st) (G : EnvR H ρ Γ σ) (h : Acc X.mg E H ρ P (m Γ st))
    (k : ∀ p st1 H1 ρ1 v,Ext H ρ H1 ρ1 -> Rel H1 ρ1 st1 -> EnvR H1 ρ1 Γ σ -> Rep H1 ρ1 p v -> P p st1 H1 ρ1 -> Q v H1) : WE X e σ H Q:=by
  refine s.run Γ σ H ρ st Q R G ?_
  cases r : m Γ st with
  | ok p st1=>rw [r] at h; exact fun H' ρ' x' R' v rv=>k p st1 H' ρ' v x' R' (G.ext x') rv (h H' ρ' x' R')
  | exc e st=>rw [r] at h; exact h
  | stuck=>rw [r] at h; exact h
theorem SimE.use' {e : Expr} {m : ME} (s : SimE X E e m) {P : PV -> Store -> Hp -> Tk -> Prop} {Q : VK} (R : Rel H ρ st) (G : EnvR H ρ Γ σ) (h : Acc X.mg E H ρ P (m Γ st))
    (k : ∀ p st1 H1 ρ1 v,m Γ st = .ok p st1 -> Ext H ρ H1 ρ1 -> Rel H1 ρ1 st1 -> EnvR H1 ρ1 Γ σ -> Rep H1 ρ1 p v -> P p st1 H1 ρ1 -> Q v H1) : WE X e σ H Q:=by
  refine s.run Γ σ H ρ st Q R G ?_
  cases r : m Γ st with
  | ok p st1=>rw [r] at h; exact fun H' ρ' x' R' v rv=>k p st1 H' ρ' v r x' R' (G.ext x') rv (h H' ρ' x' R')
  | exc e st=>rw [r] at h; exact h
  | stuck=>rw [r] at h; exact h
theorem SimA.use' {es : List Expr} {m : Gam -> Store -> Res (List PV)} (s : SimA X E es m) {P : List PV -> Store -> Hp -> Tk -> Prop} {Q : List V -> Hp -> Prop} (R : Rel H ρ st) (G : EnvR H ρ Γ σ) (h : Acc X.mg E H ρ P (m Γ st))
    (k : ∀ ps st1 H1 ρ1 vs,m Γ st = .ok ps st1 -> Ext H ρ H1 ρ1 -> Rel H1 ρ1 st1 -> EnvR H1 ρ1 Γ σ -> RepL H1 ρ1 ps vs -> P ps st1 H1 ρ1 -> Q vs H1) : WA X es σ H Q:=by
  refine s.run Γ σ H ρ st Q R G ?_
  cases r : m Γ st with
  | ok p st1=>rw [r] at h; exact fun H' ρ' x' R' v rv=>k p st1 H' ρ' v r x' R' (G.ext x') rv (h H' ρ' x' R')
  | exc e st=>rw [r] at h; exact h
  | stuck=>rw [r] at h; exact h
theorem SimT.use {e : Expr} {m : Gam -> Store -> Res Bool} (s : SimT X E e m) {P : Bool -> Store -> Hp -> Tk -> Prop} {Q : Bool -> Hp -> Prop} (R : Rel H ρ st) (G : EnvR H ρ Γ σ) (h : Acc X.mg E H ρ P (m Γ st))
    (k : ∀ p st1 H1 ρ1,Ext H ρ H1 ρ1 -> Rel H1 ρ1 st1 -> EnvR H1 ρ1 Γ σ -> P p st1 H1 ρ1 -> Q p H1) : WT X e σ H Q:=by
  refine s.run Γ σ H ρ st Q R G ?_
  cases r : m Γ st with
  | ok p st1=>rw [r] at h; exact fun H' ρ' x' R'=>k p st1 H' ρ' x' R' (G.ext x') (h H' ρ' x' R')
  | exc e st=>rw [r] at h; exact h
  | stuck=>rw [r] at h; exact h
theorem SimT.use' {e : Expr} {m : Gam -> Store -> Res Bool} (s : SimT X E e m) {P : Bool -> Store -> Hp -> Tk -> Prop} {Q : Bool -> Hp -> Prop} (R : Rel H ρ st) (G : EnvR H ρ Γ σ) (h : Acc X.mg E H ρ P (m Γ st))
    (k : ∀ p st1 H1 ρ1,m Γ st = .ok p st1 -> Ext H ρ H1 ρ1 -> Rel H1 ρ1 st1 -> EnvR H1 ρ1 Γ σ -> P p st1 H1 ρ1 -> Q p H1) : WT X e σ H Q:=by
  refine s.run Γ σ H ρ st Q R G ?_
  cases r : m Γ st with
  | ok p st1=>rw [r] at h; exact fun H' ρ' x' R'=>k p st1 H' ρ' r x' R' (G.ext x') (h H' ρ' x' R')
  | exc e st=>rw [r] at h; exact h
  | stuck=>rw [r] at h; exact h
theorem SimW.use {e : Expr} {m : Gam -> Store -> Res Bool} (s : SimW X E e m) {P : Bool -> Store -> Hp -> Tk -> Prop} {Q : Bool -> Hp -> Prop} (R : Rel H ρ st) (G : EnvR H ρ Γ σ) (h : Acc X.mg E H ρ P (m Γ st))
    (k : ∀ p st1 H1 ρ1,Ext H ρ H1 ρ1 -> Rel H1 ρ1 st1 -> EnvR H1 ρ1 Γ σ -> P p st1 H1 ρ1 -> Q p H1) : WW X e σ H Q:=by
  refine s.run Γ σ H ρ st Q R G ?_
  cases r : m Γ st with
  | ok p st1=>rw [r] at h; exact fun H' ρ' x' R'=>k p st1 H' ρ' x' R' (G.ext x') (h H' ρ' x' R')
  | exc e st=>rw [r] at h; exact h
  | stuck=>rw [r] at h; exact h
theorem SimA.use {es : List Expr} {m : Gam -> Store -> Res (List PV)} (s : SimA X E es m) {P : List PV -> Store -> Hp -> Tk -> Prop} {Q : List V -> Hp -> Prop} (R : Rel H ρ st) (G : EnvR H ρ Γ σ) (h : Acc X.mg E H ρ P (m Γ st))
    (k : ∀ ps st1 H1 ρ1 vs,Ext H ρ H1 ρ1 -> Rel H1 ρ1 st1 -> EnvR H1 ρ1 Γ σ -> RepL H1 ρ1 ps vs -> P ps st1 H1 ρ1 -> Q vs H1) : WA X es σ H Q:=by
  refine s.run Γ σ H ρ st Q R G ?_
  cases r : m Γ st with
  | ok p st1=>rw [r] at h; exact fun H' ρ' x' R' v rv=>k p st1 H' ρ' v x' R' (G.ext x') rv (h H' ρ' x' R')
  | exc e st=>rw [r] at h; exact h
  | stuck=>rw [r] at h; exact h
theorem OpS.use {f : Value -> Value -> Sem Value} {o : OP} (s : OpS X E f o) {P : PV -> Store -> Hp -> Tk -> Prop} {Q : VK} {p q : PV} {x y : V} (R : Rel H ρ st) (rp : Rep H ρ p x) (rq : Rep H ρ q y) (h : Acc X.mg E H ρ P (o st p q))
    (k : ∀ p st1 H1 ρ1 v,Ext H ρ H1 ρ1 -> Rel H1 ρ1 st1 -> Rep H1 ρ1 p v -> P p st1 H1 ρ1 -> Q v H1) : WO X f x y H Q:=by
  refine s.run H ρ st p q x y Q R rp rq ?_
  cases r : o st p q with
  | ok p st1=>rw [r] at h; exact fun H' ρ' x' R' v rv=>k p st1 H' ρ' v x' R' rv (h H' ρ' x' R')
  | exc e st=>rw [r] at h; exact h
  | stuck=>rw [r] at h; exact h
end
end Sm
namespace Sm
open PySem PySem.Spec L2 SeqAt
mutual
def peq : PV -> PV -> Bool
  | .non,.non=>true
  | .bl a,.bl b=>a == b
  | .bl a,.int b=>(if a then 1 else 0) == b
  | .int a,.bl b=>a == (if b then 1 else 0)
  | .int a,.int b=>a == b
  | .str a,.str b=>a == b
  | .tup xs,.tup ys=>peqL xs ys
  | .lst xs,.lst ys=>peqL xs ys
  | .lst xs,.fro ys=>peqL xs ys
  | .fro xs,.lst ys=>peqL xs ys
  | .fro xs,.fro ys=>peqL xs ys
  | _,_=>false
def peqL : List PV -> List PV -> Bool
  | [],[]=>true
  | x :: xs,y :: ys=>peq x y && peqL xs ys
  | _,_=>false
end
def good : Nat -> PV -> Bool
  | _,.ref _=>false
  | _,.dic=>false
  | 0,.tup _=>false
  | 0,.lst _=>false
  | 0,.fro _=>false
  | n + 1,.tup xs=>xs.all (good n)
  | n + 1,.lst xs=>xs.all (good n)
  | n + 1,.fro xs=>xs.all (good n)
  | _,_=>true
theorem peqL_len : ∀ {xs ys : List PV},xs.length ≠ ys.length -> peqL xs ys = false
  | [],[],h=>absurd rfl h
  | [],_ :: _,_=>by simp [peqL]
  | _ :: _,[],_=>by simp [peqL]
  | x :: xs,y :: ys,h=>by
    rw [peqL,peqL_len (xs:=xs) (ys:=ys) fun e=>h (by simp [e]),Bool.and_false]
theorem peqL_all : ∀ {xs ys : List PV},xs.length = ys.length -> peqL xs ys = (List.range xs.length).all fun j=>peq (xs.getD j .non) (ys.getD j .non)
  | [],[],_=>by simp [peqL]
  | [],_ :: _,h=>by simp at h
  | _ :: _,[],h=>by simp at h
  | x :: xs,y :: ys,h=>by
    rw [peqL,peqL_all (xs:=xs) (ys:=ys) (by simpa using h),List.length_cons,List.range_succ_eq_map,List.all_cons,List.all_map]
    rfl
section
variable {X : Cx} {pins : List (Addr × Obj)} {σ : St} {H : Hp} {s : Shared} {ρ : Tk}
mutual
theorem rep_same : ∀ {p q : PV} {x : V} {n : Nat},good n p = true -> good n q = true -> Rep H ρ p x -> Rep H ρ q x -> peq p q = true
  | .non,q,x,n,_,gq,h1,h2=>by
    cases h1
    cases q <;> first | rfl | (cases n <;> cases gq; done) | (cases h2; done) | (obtain ⟨_,_,e,_⟩:=h2; cases e) | (obtain ⟨_,_,e⟩:=h2; cases e)
  | .bl b,q,x,n,_,gq,h1,h2=>by
    cases h1
    cases q <;> first | (cases n <;> cases gq; done) | (cases h2; simp [peq]; done) | (obtain ⟨_,_,e,_⟩:=h2; done) | (obtain ⟨_,_,e,_⟩:=h2; cases e; done) | (obtain ⟨_,_,e⟩:=h2; cases e)
  | .int b,q,x,n,_,gq,h1,h2=>by
    cases h1
    cases q <;> first | (cases n <;> cases gq; done) | (cases h2; simp [peq]; done) | (obtain ⟨_,_,e,_⟩:=h2; done) | (obtain ⟨_,_,e,_⟩:=h2; cases e; done) | (obtain ⟨_,_,e⟩:=h2; cases e)
  | .str b,q,x,n,_,gq,h1,h2=>by
    cases h1
    cases q <;> first | (cases n <;> cases gq; done) | (cases h2; simp [peq]; done) | (obtain ⟨_,_,e,_⟩:=h2; done) | (obtain ⟨_,_,e,_⟩:=h2; cases e; done) | (obtain ⟨_,_,e⟩:=h2; cases e)
  | .tup ps,q,x,0,gp,_,_,_=>by cases gp
  | .tup ps,q,x,n + 1,gp,gq,⟨a,vs,e,ha,_,r⟩,h2=>by
    subst e
    cases q with
    | tup qs=>
      obtain ⟨b,us,e,hb,_,r2⟩:=h2
      cases e
      rw [ha] at hb; cases hb
      rw [peq]
      exact repL_same gp gq r r2
    | lst qs=>obtain ⟨b,us,e,hb,_⟩:=h2; cases e; rw [ha] at hb; cases hb
    | fro qs=>obtain ⟨b,us,e,hb,_⟩:=h2; cases e; rcases hb with hb | ⟨o,hb⟩ <;> (rw [ha] at hb; cases hb)
    | ref i=>cases gq
    | dic=>cases gq
    | _=>cases h2
  | .lst ps,q,x,0,gp,_,_,_=>by cases gp
  | .lst ps,q,x,n + 1,gp,gq,⟨a,vs,e,ha,_,r⟩,h2=>by
    subst e
    cases q with
    | lst qs=>
      obtain ⟨b,us,e,hb,_,r2⟩:=h2
      cases e
      rw [ha] at hb; cases hb
      rw [peq]
      exact repL_same gp gq r r2
    | tup qs=>obtain ⟨b,us,e,hb,_⟩:=h2; cases e; rw [ha] at hb; cases hb
    | fro qs=>
      obtain ⟨b,us,e,hb,_,r2⟩:=h2
      cases e
      rcases hb with hb | ⟨o,hb⟩
      · rw [ha] at hb; cases hb
        rw [peq]
        exact repL_same gp gq r r2
      · rw [ha] at hb; cases hb
    | ref i=>cases gq
    | dic=>cases gq
    | _=>cases h2
  | .fro ps,q,x,0,gp,_,_,_=>by cases gp
  | .fro ps,q,x,n + 1,gp,gq,⟨a,vs,e,ha,_,r⟩,h2=>by
    subst e
    cases q with
    | lst qs=>
      obtain ⟨b,us,e,hb,_,r2⟩:=h2
      cases e
      rcases ha with ha | ⟨o,ha⟩
      · rw [ha] at hb; cases hb
        rw [peq]
        exact repL_same gp gq r r2
      · rw [ha] at hb; cases hb
    | tup qs=>obtain ⟨b,us,e,hb,_⟩:=h2; cases e; rcases ha with ha | ⟨o,ha⟩ <;> (rw [ha] at hb; cases hb)
    | fro qs=>
      obtain ⟨b,us,e,hb,_,r2⟩:=h2
      cases e
      have : vs = us:=by
        rcases ha with ha | ⟨o,ha⟩ <;> rcases hb with hb | ⟨o',hb⟩ <;> (rw [ha] at hb; cases hb) <;> rfl
      subst this
      rw [peq]
      exact repL_same gp gq r r2
    | ref i=>cases gq
    | dic=>cases gq
    | _=>cases h2
  | .ref i,_,_,n,gp,_,_,_=>by cases n <;> cases gp
  | .dic,_,_,n,gp,_,_,_=>by cases n <;> cases gp
theorem repL_same : ∀ {ps qs : List PV} {vs : List V} {n : Nat},ps.all (good n) = true -> qs.all (good n) = true -> RepL H ρ ps vs -> RepL H ρ qs vs -> peqL ps qs = true
  | [],qs,vs,n,_,_,h1,h2=>by
    cases h1
    cases qs with
    | nil=>rfl
    | cons q qs=>obtain ⟨_,_,e,_⟩:=h2; cases e
  | p :: ps,qs,vs,n,g1,g2,⟨v,r,e,h1,h1'⟩,h2=>by
    subst e
    cases qs with
    | nil=>cases h2
    | cons q qs=>
      obtain ⟨_,_,e,h2,h2'⟩:=h2
      cases e
      rw [List.all_cons,Bool.and_eq_true] at g1 g2
      rw [peqL,rep_same g1.1 g2.1 h1 h2,repL_same g1.2 g2.2 h1' h2']; rfl
end
inductive Kd (H : Hp) (ρ : Tk) (s : Shared) : PV -> Value -> Prop where
  | non : Kd H ρ s .non .none
  | bl (b) : Kd H ρ s (.bl b) (.bool b)
  | int (i t) : Kd H ρ s (.int i) (.int i t)
  | str (x t) : Kd H ρ s (.str x) (.str x t)
  | tup (ps a) (vs : List V) (its : List Value) : H a = some (.tup vs) -> RepL H ρ ps vs -> Vals vs its -> s.heap.IsTuple a its.toArray -> Kd H ρ s (.tup ps) (.ref a)
  | lst (p ps a) (vs : List V) (its : List Value) : (p = .lst ps \/ p = .fro ps) -> RepL H ρ ps vs -> Vals vs its -> s.heap.IsList a its.toArray -> Kd H ρ s p (.ref a)
theorem kd_of {p : PV} {x : V} {u : Value} {n : Nat} (I : Inv X pins σ H s) (g : good n p = true) (r : Rep H ρ p x) (ru : RelV x u) : Kd H ρ s p u:=by
  cases p with
  | non=>cases r; cases ru; exact .non
  | bl b=>cases r; cases ru; exact .bl b
  | int i=>cases r; obtain ⟨t,rfl⟩:=ru; exact .int i t
  | str i=>cases r; obtain ⟨t,rfl⟩:=ru; exact .str i t
  | tup ps=>
    obtain ⟨a,vs,rfl,ha,_,rr⟩:=r
    cases ru
    obtain ⟨its,v1,p1,_⟩:=I.tuple (SqT.of (K:=X.K) ha)
    exact .tup ps a vs its ha rr v1 p1
  | lst ps=>
    obtain ⟨a,vs,rfl,ha,_,rr⟩:=r
    cases ru
    obtain ⟨its,v1,p1,_⟩:=I.list (SqL.of (K:=X.K) ha)
    exact .lst _ ps a vs its (.inl rfl) rr v1 p1.isList
  | fro ps=>
    obtain ⟨a,vs,rfl,ha,_,rr⟩:=r
    cases ru
    obtain ⟨its,v1,p1,_⟩:=I.list (show SqL X.K H a vs from .inl ha)
    exact .lst _ ps a vs its (.inr rfl) rr v1 p1.isList
  | ref i=>cases n <;> cases g
  | dic=>cases n <;> cases g
theorem getD_of {ps : List PV} {vs : List V} {its : List Value} (r : RepL H ρ ps vs) (v : Vals vs its) {j : Nat} (h : j < its.length) : ∃ x,Rep H ρ (ps.getD j .non) x /\ RelV x its[j]:=by
  have l1:=r.length
  have l2:=v.length
  have hj : j < ps.length:=by omega
  obtain ⟨x,e1,e2⟩:=r.get (List.getElem?_eq_getElem hj)
  obtain ⟨u,e3,e4⟩:=v.get e1
  rw [List.getElem?_eq_getElem h] at e3; cases e3
  refine ⟨x,?_,e4⟩
  rw [List.getD,List.getElem?_eq_getElem hj]
  exact e2
theorem good_getD {ps : List PV} {n : Nat} (g : ps.all (good n) = true) (j : Nat) (hj : j < ps.length) : good n (ps.getD j .non) = true:=by
  rw [List.getD,List.getElem?_eq_getElem hj]
  exact (List.all_eq_true.mp g) _ (List.getElem_mem hj)
theorem peqL_range {ps qs : List PV} : ((List.range (min ps.length qs.length)).all (fun j=>peq (ps.getD j .non) (qs.getD j .non)) && ps.length == qs.length) = peqL ps qs:=by
  by_cases e : ps.length = qs.length
  · rw [peqL_all e,<- e,Nat.min_self,beq_self_eq_true,Bool.and_true]
  · rw [peqL_len e,beq_eq_false_iff_ne.mpr e,Bool.and_false]
theorem eqAts : ∀ (n : Nat) {A : Around} {p q : PV} {x y : V} {u v : Value},Inv X pins σ H s -> good n p = true -> good n q = true -> A.units + n < cLine -> Rep H ρ p x -> RelV x u -> Rep H ρ q y -> RelV y v ->
    EqAt A s u v (peq p q) /\ RcAt A s u v (peq p q) /\ RcNeAt A s u v (!peq p q):=by
  intro n
  induction n with
  | zero=>
    intro A p q x y u v I gp gq hu rp ru rq rv
    have k1:=kd_of I gp rp ru
    have k2:=kd_of I gq rq rv
    have hu : A.units < cLine:=by omega
    cases k1 with
    | tup=>cases gp
    | lst p ps a vs its h=>rcases h with rfl | rfl <;> cases gp
    | non=>cases k2 with
      | tup=>cases gq
      | lst p ps a vs its h=>rcases h with rfl | rfl <;> cases gq
      | non=>exact ⟨EqAt.same _,RcAt.none_none,RcNeAt.none_none⟩
      | bl b=>exact ⟨EqAt.none_bool _,RcAt.none_bool _,RcNeAt.none_bool _⟩
      | int i t=>exact ⟨EqAt.none_int _ _,RcAt.none_int _ _,RcNeAt.none_int _ _⟩
      | str i t=>exact ⟨EqAt.none_str _ _,RcAt.none_str _ _,RcNeAt.none_str _ _⟩
    | bl a=>cases k2 with
      | tup=>cases gq
      | lst p ps a vs its h=>rcases h with rfl | rfl <;> cases gq
      | non=>exact ⟨EqAt.bool_none _,RcAt.bool_none _,RcNeAt.bool_none _⟩
      | bl b=>exact ⟨EqAt.bool_bool _ _,RcAt.bool_bool _ _,RcNeAt.bool_bool _ _⟩
      | int i t=>exact ⟨EqAt.bool_int _ _ _,RcAt.bool_int _ _ _,RcNeAt.bool_int _ _ _⟩
      | str i t=>exact ⟨EqAt.bool_str _ _ _,RcAt.bool_str _ _ _,RcNeAt.bool_str _ _ _⟩
    | int a at'=>cases k2 with
      | tup=>cases gq
      | lst p ps a vs its h=>rcases h with rfl | rfl <;> cases gq
      | non=>exact ⟨EqAt.int_none _ _,RcAt.int_none _ _,RcNeAt.int_none _ _⟩
      | bl b=>exact ⟨EqAt.int_bool _ _ _,RcAt.int_bool _ _ _,RcNeAt.int_bool _ _ _⟩
      | int i t=>exact ⟨EqAt.int_int _ _ _ _,RcAt.int_int _ _ _ _,RcNeAt.int_int _ _ _ _⟩
      | str i t=>exact ⟨EqAt.int_str _ _ _ _,RcAt.int_str _ _ _ _,RcNeAt.int_str _ _ _ _⟩
    | str a at'=>cases k2 with
      | tup=>cases gq
      | lst p ps a vs its h=>rcases h with rfl | rfl <;> cases gq
      | non=>exact ⟨EqAt.str_none _ _,RcAt.str_none _ _,RcNeAt.str_none _ _⟩
      | bl b=>exact ⟨EqAt.str_bool _ _ _,RcAt.str_bool _ _ _,RcNeAt.str_bool _ _ _⟩
      | int i t=>exact ⟨EqAt.str_int _ _ _ _,RcAt.str_int _ _ _ _,RcNeAt.str_int _ _ _ _⟩
      | str i t=>exact ⟨EqAt.str_str _ _ _ _,RcAt.str_str _ _ _ _,RcNeAt.str_str _ _ _ _⟩
  | succ n ih=>
    intro A p q x y u v I gp gq hu rp ru rq rv
    have k1:=kd_of I gp rp ru
    have k2:=kd_of I gq rq rv
    have hu0 : A.units < cLine:=by omega
    have hin : A.in1.units + n < cLine:=by show A.units + 1 + n < cLine; omega
    cases k1 with
    | non=>cases k2 with
      | non=>exact ⟨EqAt.same _,RcAt.none_none,RcNeAt.none_none⟩
      | bl b=>exact ⟨EqAt.none_bool _,RcAt.none_bool _,RcNeAt.none_bool _⟩
      | int i t=>exact ⟨EqAt.none_int _ _,RcAt.none_int _ _,RcNeAt.none_int _ _⟩
      | str i t=>exact ⟨EqAt.none_str _ _,RcAt.none_str _ _,RcNeAt.none_str _ _⟩
      | tup ps a vs its ha r v1 p1=>exact ⟨EqAt.none_tuple p1 hu0,RcAt.none_tuple p1 hu0,RcNeAt.none_tuple p1 hu0⟩
      | lst p ps a vs its h r v1 p1=>rcases h with rfl | rfl <;> exact ⟨EqAt.none_list p1 hu0,RcAt.none_list p1 hu0,RcNeAt.none_list p1 hu0⟩
    | bl a=>cases k2 with
      | non=>exact ⟨EqAt.bool_none _,RcAt.bool_none _,RcNeAt.bool_none _⟩
      | bl b=>exact ⟨EqAt.bool_bool _ _,RcAt.bool_bool _ _,RcNeAt.bool_bool _ _⟩
      | int i t=>exact ⟨EqAt.bool_int _ _ _,RcAt.bool_int _ _ _,RcNeAt.bool_int _ _ _⟩
      | str i t=>exact ⟨EqAt.bool_str _ _ _,RcAt.bool_str _ _ _,RcNeAt.bool_str _ _ _⟩
      | tup ps a vs its ha r v1 p1=>exact ⟨EqAt.bool_tuple _ p1 hu0,RcAt.bool_tuple _ p1 hu0,RcNeAt.bool_tuple _ p1 hu0⟩
      | lst p ps a vs its h r v1 p1=>rcases h with rfl | rfl <;> exact ⟨EqAt.bool_list _ p1 hu0,RcAt.bool_list _ p1 hu0,RcNeAt.bool_list _ p1 hu0⟩
    | int a at'=>cases k2 with
      | non=>exact ⟨EqAt.int_none _ _,RcAt.int_none _ _,RcNeAt.int_none _ _⟩
      | bl b=>exact ⟨EqAt.int_bool _ _ _,RcAt.int_bool _ _ _,RcNeAt.int_bool _ _ _⟩
      | int i t=>exact ⟨EqAt.int_int _ _ _ _,RcAt.int_int _ _ _ _,RcNeAt.int_int _ _ _ _⟩
      | str i t=>exact ⟨EqAt.int_str _ _ _ _,RcAt.int_str _ _ _ _,RcNeAt.int_str _ _ _ _⟩
      | tup ps a vs its ha r v1 p1=>exact ⟨EqAt.int_tuple _ _ p1 hu0,RcAt.int_tuple _ _ p1 hu0,RcNeAt.int_tuple _ _ p1 hu0⟩
      | lst p ps a vs its h r v1 p1=>rcases h with rfl | rfl <;> exact ⟨EqAt.int_list _ _ p1 hu0,RcAt.int_list _ _ p1 hu0,RcNeAt.int_list _ _ p1 hu0⟩
    | str a at'=>cases k2 with
      | non=>exact ⟨EqAt.str_none _ _,RcAt.str_none _ _,RcNeAt.str_none _ _⟩
      | bl b=>exact ⟨EqAt.str_bool _ _ _,RcAt.str_bool _ _ _,RcNeAt.str_bool _ _ _⟩
      | int i t=>exact ⟨EqAt.str_int _ _ _ _,RcAt.str_int _ _ _ _,RcNeAt.str_int _ _ _ _⟩
      | str i t=>exact ⟨EqAt.str_str _ _ _ _,RcAt.str_str _ _ _ _,RcNeAt.str_str _ _ _ _⟩
      | tup ps a vs its ha r v1 p1=>exact ⟨EqAt.str_tuple _ _ p1 hu0,RcAt.str_tuple _ _ p1 hu0,RcNeAt.str_tuple _ _ p1 hu0⟩
      | lst p ps a vs its h r v1 p1=>rcases h with rfl | rfl <;> exact ⟨EqAt.str_list _ _ p1 hu0,RcAt.str_list _ _ p1 hu0,RcNeAt.str_list _ _ p1 hu0⟩
    | tup ps a vs its ha r v1 p1=>cases k2 with
      | non=>exact ⟨EqAt.tuple_none p1 hu0,RcAt.tuple_none p1 hu0,RcNeAt.tuple_none p1 hu0⟩
      | bl b=>exact ⟨EqAt.tuple_bool _ p1 hu0,RcAt.tuple_bool _ p1 hu0,RcNeAt.tuple_bool _ p1 hu0⟩
      | int i t=>exact ⟨EqAt.tuple_int _ _ p1 hu0,RcAt.tuple_int _ _ p1 hu0,RcNeAt.tuple_int _ _ p1 hu0⟩
      | str i t=>exact ⟨EqAt.tuple_str _ _ p1 hu0,RcAt.tuple_str _ _ p1 hu0,RcNeAt.tuple_str _ _ p1 hu0⟩
      | tup qs b us its2 hb r2 v2 p2=>
        have l1 : its.toArray.size = ps.length:=by rw [List.size_toArray,<- v1.length,r.length]
        have l2 : its2.toArray.size = qs.length:=by rw [List.size_toArray,<- v2.length,r2.length]
        have he : ∀ j (h1 : j < its.toArray.size) (h2 : j < its2.toArray.size),EqAt A.in1 s its.toArray[j] its2.toArray[j] (peq (ps.getD j .non) (qs.getD j .non)):=fun j h1 h2=>by
          obtain ⟨x1,a1,b1⟩:=getD_of r v1 (j:=j) (by simpa using h1)
          obtain ⟨x2,a2,b2⟩:=getD_of r2 v2 (j:=j) (by simpa using h2)
          exact (ih I (good_getD gp j (by omega)) (good_getD gq j (by omega)) hin a1 b1 a2 b2).1
        have rc:=RcAt.tuples p1 p2 hu0 he
        have rn:=RcNeAt.tuples p1 p2 hu0 he
        rw [l1,l2,peqL_range] at rc rn
        refine ⟨?_,rc,rn⟩
        by_cases e : a = b
        · subst e
          have : peqL ps qs = true:=by
            rw [ha] at hb; cases hb
            exact repL_same gp gq r r2
          show EqAt A s _ _ (peqL ps qs)
          rw [this]
          exact EqAt.same _
        · exact EqAt.of_refs e rc
      | lst q qs b us its2 h r2 v2 p2=>rcases h with rfl | rfl <;> exact ⟨EqAt.tuple_list p1 p2 hu0,RcAt.tuple_list p1 p2 hu0,RcNeAt.tuple_list p1 p2 hu0⟩
    | lst p ps a vs its h r v1 p1=>cases k2 with
      | non=>rcases h with rfl | rfl <;> exact ⟨EqAt.list_none p1 hu0,RcAt.list_none p1 hu0,RcNeAt.list_none p1 hu0⟩
      | bl b=>rcases h with rfl | rfl <;> exact ⟨EqAt.list_bool _ p1 hu0,RcAt.list_bool _ p1 hu0,RcNeAt.list_bool _ p1 hu0⟩
      | int i t=>rcases h with rfl | rfl <;> exact ⟨EqAt.list_int _ _ p1 hu0,RcAt.list_int _ _ p1 hu0,RcNeAt.list_int _ _ p1 hu0⟩
      | str i t=>rcases h with rfl | rfl <;> exact ⟨EqAt.list_str _ _ p1 hu0,RcAt.list_str _ _ p1 hu0,RcNeAt.list_str _ _ p1 hu0⟩
      | tup qs b us its2 hb r2 v2 p2=>rcases h with rfl | rfl <;> exact ⟨EqAt.list_tuple p1 p2 hu0,RcAt.list_tuple p1 p2 hu0,RcNeAt.list_tuple p1 p2 hu0⟩
      | lst q qs b us its2 h2 r2 v2 p2=>
        have l1 : its.toArray.size = ps.length:=by rw [List.size_toArray,<- v1.length,r.length]
        have l2 : its2.toArray.size = qs.length:=by rw [List.size_toArray,<- v2.length,r2.length]
        have gp' : ps.all (good n) = true:=by rcases h with rfl | rfl <;> exact gp
        have gq' : qs.all (good n) = true:=by rcases h2 with rfl | rfl <;> exact gq
        have ep : peq p q = peqL ps qs:=by rcases h with rfl | rfl <;> rcases h2 with rfl | rfl <;> rfl
        have he : ∀ j (h1 : j < its.toArray.size) (h2 : j < its2.toArray.size),EqAt A.in1 s its.toArray[j] its2.toArray[j] (peq (ps.getD j .non) (qs.getD j .non)):=fun j h1 h2=>by
          obtain ⟨x1,a1,b1⟩:=getD_of r v1 (j:=j) (by simpa using h1)
          obtain ⟨x2,a2,b2⟩:=getD_of r2 v2 (j:=j) (by simpa using h2)
          exact (ih I (good_getD gp' j (by omega)) (good_getD gq' j (by omega)) hin a1 b1 a2 b2).1
        rw [ep]
        have rcn : RcAt A s (.ref a) (.ref b) (peqL ps qs) /\ RcNeAt A s (.ref a) (.ref b) (!peqL ps qs):=by
          by_cases e : ps.length = qs.length
          · have rc:=RcAt.lists p1 p2 (by rw [l1,l2,e]) hu0 he
            have rn:=RcNeAt.lists p1 p2 (by rw [l1,l2,e]) hu0 he
            rw [l1,<- peqL_all e] at rc rn
            exact ⟨rc,rn⟩
          · have e' : (its.toArray.size != its2.toArray.size) = true:=by rw [l1,l2]; simpa using e
            rw [peqL_len e]
            exact ⟨RcAt.lists_lengths p1 p2 e' hu0,RcNeAt.lists_lengths p1 p2 e' hu0⟩
        refine ⟨?_,rcn.1,rcn.2⟩
        by_cases e : a = b
        · subst e
          have eq1 : peq p q = true:=by
            have rp':=rp
            have rq':=rq
            have xa : x = .ref a:=by
              rcases h with rfl | rfl <;> (obtain ⟨b',_,rfl,_⟩:=rp; cases ru; rfl)
            have ya : y = .ref a:=by
              rcases h2 with rfl | rfl <;> (obtain ⟨b',_,rfl,_⟩:=rq; cases rv; rfl)
            subst xa; subst ya
            exact rep_same gp gq rp rq
          rw [<- ep,eq1]
          exact EqAt.same _
        · exact EqAt.of_refs e rcn.1
end
end Sm
namespace Sm
open PySem PySem.Spec L2
def lim : Nat:=1000000
theorem lim_le : lim <= sizeLine:=by decide
theorem le_lim {n : Nat} (h : n <= lim) : n <= sizeLine:=Nat.le_trans h lim_le
def lstOf (st : Store) : PV -> Option (List PV)
  | .lst xs=>some xs
  | .ref i=>match st[i]? with
    | some (.lst xs)=>some xs
    | _=>none
  | _=>none
def listOf (st : Store) : PV -> Option (List PV)
  | .fro xs=>some xs
  | p=>lstOf st p
def seqOf (st : Store) : PV -> Option (List PV)
  | .tup xs=>some xs
  | p=>listOf st p
def der (st : Store) : PV -> PV
  | .ref i=>match st[i]? with
    | some (.lst xs)=>.lst xs
    | _=>.ref i
  | p=>p
section
variable {H : Hp} {ρ : Tk} {st : Store} {p : PV} {v : V} {xs : List PV}
theorem lst_at (R : Rel H ρ st) (r : Rep H ρ p v) (e : lstOf st p = some xs) : ∃ a vs,v = .ref a /\ H a = some (.lst vs) /\ RepL H ρ xs vs:=by
  cases p with
  | lst ys=>
    obtain ⟨a,vs,e1,e2,_,e3⟩:=r
    cases e
    exact ⟨a,vs,e1,e2,e3⟩
  | ref i=>
    obtain ⟨a,e1,e2⟩:=r
    simp only [lstOf] at e
    split at e
    · rename_i ys hs
      cases e
      obtain ⟨b,vs,f1,f2,f3⟩:=R.lst hs
      rw [e1] at f1; cases f1
      exact ⟨a,vs,e2,f2,f3⟩
    · cases e
  | _=>cases e
theorem list_at (R : Rel H ρ st) (r : Rep H ρ p v) (e : listOf st p = some xs) : ∃ a vs,v = .ref a /\ Rd H a (.lst vs) /\ RepL H ρ xs vs:=by
  cases p with
  | fro ys=>
    obtain ⟨a,vs,e1,e2,_,e3⟩:=r
    cases e
    exact ⟨a,vs,e1,e2,e3⟩
  | _=>
    obtain ⟨a,vs,e1,e2,e3⟩:=lst_at R r e
    exact ⟨a,vs,e1,.inl e2,e3⟩
theorem seq_at {K : PySem.W.Frag} (R : Rel H ρ st) (r : Rep H ρ p v) (e : seqOf st p = some xs) : ∃ (t : Bool) (a : Addr) (vs : List V),v = .ref a /\ SqK K t H a vs /\ RepL H ρ xs vs:=by
  cases p with
  | tup ys=>
    obtain ⟨a,vs,e1,e2,_,e3⟩:=r
    cases e
    exact ⟨true,a,vs,e1,show SqT K H a vs from SqT.of e2,e3⟩
  | _=>
    obtain ⟨a,vs,e1,e2,e3⟩:=list_at R r e
    exact ⟨false,a,vs,e1,show SqL K H a vs from .inl e2,e3⟩
theorem sqK_or {K : PySem.W.Frag} {t : Bool} {a : Addr} {vs : List V} (h : SqK K t H a vs) : SqL K H a vs \/ SqT K H a vs:=by
  cases t with
  | true=>exact .inr h
  | false=>exact .inl h
mutual
theorem rep_nil : ∀ {n : Nat} {q : PV} {u : V},good n q = true -> Rep H ρ q u -> Rep H Tk.nil q u
  | _,.non,_,_,r=>r
  | _,.bl _,_,_,r=>r
  | _,.int _,_,_,r=>r
  | _,.str _,_,_,r=>r
  | 0,.tup _,_,g,_=>by cases g
  | 0,.lst _,_,g,_=>by cases g
  | 0,.fro _,_,g,_=>by cases g
  | n + 1,.tup _,_,g,⟨a,vs,e,h,_,r⟩=>⟨a,vs,e,h,Tk.not_nil _,repL_nil g r⟩
  | n + 1,.lst _,_,g,⟨a,vs,e,h,_,r⟩=>⟨a,vs,e,h,Tk.not_nil _,repL_nil g r⟩
  | n + 1,.fro _,_,g,⟨a,vs,e,h,_,r⟩=>⟨a,vs,e,h,Tk.not_nil _,repL_nil g r⟩
  | 0,.ref _,_,g,_=>by cases g
  | _ + 1,.ref _,_,g,_=>by cases g
  | 0,.dic,_,g,_=>by cases g
  | _ + 1,.dic,_,g,_=>by cases g
theorem repL_nil : ∀ {n : Nat} {qs : List PV} {us : List V},qs.all (good n) = true -> RepL H ρ qs us -> RepL H Tk.nil qs us
  | _,[],_,_,r=>r
  | n,q :: qs,_,g,⟨v,r,e,h1,h2⟩=>by
    rw [List.all_cons,Bool.and_eq_true] at g
    exact ⟨v,r,e,rep_nil g.1 h1,repL_nil g.2 h2⟩
end
theorem der_rep (R : Rel H ρ st) {n : Nat} (g : good n (der st p) = true) (r : Rep H ρ p v) : Rep H Tk.nil (der st p) v:=by
  cases p with
  | ref i=>
    obtain ⟨a,e1,e2⟩:=r
    simp only [der] at g ⊢
    split at g
    · rename_i ys hs
      obtain ⟨b,vs,f1,f2,f3⟩:=R.lst hs
      rw [e1] at f1; cases f1
      cases n with
      | zero=>cases g
      | succ n=>exact ⟨a,vs,e2,f2,Tk.not_nil _,repL_nil g f3⟩
    · cases n <;> cases g
  | _=>exact rep_nil g r
theorem new_tup {mg : Str -> Option Value} {E : XK} {Q : VK} {ps : List PV} {vs : List V} (R : Rel H ρ st) (h : Acc mg E H ρ (QV Q) (.ok (.tup ps) st)) (r : RepL H ρ ps vs) : ∀ p,H p = none -> Q (.ref p) (upd H p (.tup vs)):=
  fun p hp=>h _ ρ (Ext.add hp) (R.add hp) _ ⟨p,vs,rfl,upd_same,R.fresh hp,r.ext (Ext.add hp)⟩
theorem new_lst {mg : Str -> Option Value} {E : XK} {Q : VK} {ps : List PV} {vs : List V} (R : Rel H ρ st) (h : Acc mg E H ρ (QV Q) (.ok (.lst ps) st)) (r : RepL H ρ ps vs) : ∀ p,H p = none -> Q (.ref p) (upd H p (.lst vs)):=
  fun p hp=>h _ ρ (Ext.add hp) (R.add hp) _ ⟨p,vs,rfl,upd_same,R.fresh hp,r.ext (Ext.add hp)⟩
theorem now {mg : Str -> Option Value} {E : XK} {Q : VK} {p : PV} (R : Rel H ρ st) (h : Acc mg E H ρ (QV Q) (.ok p st)) (r : Rep H ρ p v) : Q v H:=h H ρ (Ext.refl _ _) R v r
end
section
variable {X : Cx} {E : XK} {pos : Pos}
def mVar (i : Nat) : ME:=fun Γ st=>match Γ[i]? with
  | some (some p)=>.ok p st
  | _=>.stuck
def mC (p : PV) : ME:=fun _ st=>.ok p st
theorem se_var (i : Nat) {x : Str} (hN : X.N[i]? = some x:=by rfl) (hv : Vis X.env.scope x:=by first | exact Or.inl rfl | exact Or.inr (Or.inl rfl) | exact Or.inr (Or.inr rfl)) (hd : (x == ("__debug__" : Str)) = false:=by decide)
    (hcd : (x == ("__classdict__" : Str)) = false:=by decide) : SimE X E (.Name x pos) (mVar i):=⟨fun Γ σ H ρ st Q R G h=>WE.of (pe_var hN hv hd hcd) (by
  unfold mVar at h
  split at h
  · rename_i p e
    obtain ⟨v,e1,r⟩:=G.2 i p e
    exact ⟨v,e1,now R h r⟩
  · exact h.elim)⟩
theorem se_int {i : Int} {j : Nat} : SimE X E (.Constant (.int i) j pos) (mC (.int i)):=⟨fun Γ σ H ρ st Q R G h=>WE.of pe_int (now R h rfl)⟩
theorem se_bl {b : Bool} {j : Nat} : SimE X E (.Constant (.bool b) j pos) (mC (.bl b)):=⟨fun Γ σ H ρ st Q R G h=>WE.of pe_bl (now R h rfl)⟩
theorem se_non {j : Nat} : SimE X E (.Constant .none j pos) (mC .non):=⟨fun Γ σ H ρ st Q R G h=>WE.of pe_non (now R h rfl)⟩
theorem se_str {x : Str} {j : Nat} : SimE X E (.Constant (.str x) j pos) (mC (.str x)):=⟨fun Γ σ H ρ st Q R G h=>WE.of pe_str (now R h rfl)⟩
theorem se_gint {x : Str} {i : Int} {t : Tok} (hg : Gl X x) (hm : X.mg x = some (.int i t)) (hd : (x == ("__debug__" : Str)) = false:=by decide) : SimE X E (.Name x pos) (mC (.int i)):=
  ⟨fun Γ σ H ρ st Q R G h=>WE.of (pe_glob hg hm (v:=.int i) ⟨t,rfl⟩ hd) (now R h rfl)⟩
variable {a b c : Expr} {ma mb mc : ME}
def mOp (o : OP) (ma mb : ME) : ME:=fun Γ st=>(ma Γ st).bind fun x st1=>(mb Γ st1).bind fun y st2=>o st2 x y
theorem bin_run {f : Value -> Value -> Sem Value} {o : OP} {Γ : Gam} {σ : St} {H : Hp} {ρ : Tk} {st : Store} {P : PV -> Store -> Hp -> Tk -> Prop} {Q : VK} (ho : OpS X E f o) (ha : SimE X E a ma) (hb : SimE X E b mb) (R : Rel H ρ st) (G : EnvR H ρ Γ σ) (h : Acc X.mg E H ρ P (mOp o ma mb Γ st))
    (k : ∀ p st1 H1 ρ1 v,Ext H ρ H1 ρ1 -> Rel H1 ρ1 st1 -> Rep H1 ρ1 p v -> P p st1 H1 ρ1 -> Q v H1) : tOp (WO X f) (WE X a) (WE X b) σ H Q:=by
  refine ha.use R G h.bind fun p st1 H1 ρ1 v x1 R1 G1 r1 h1=>?_
  refine hb.use R1 G1 h1.bind fun q st2 H2 ρ2 u x2 R2 G2 r2 h2=>?_
  exact ho.use R2 (r1.ext x2) r2 h2 fun w st3 H3 ρ3 z x3 R3 r3 p3=>k w st3 H3 ρ3 z (x1.trans (x2.trans x3)) R3 r3 p3
theorem se_op {op : Operator} {o : OP} (ho : OpS X E (binaryOp op) o) (ha : SimE X E a ma) (hb : SimE X E b mb) : SimE X E (.BinOp a op b pos) (mOp o ma mb):=
  ⟨fun Γ σ H ρ st Q R G h=>WE.of (pe_op op_w pe_w pe_w) (bin_run ho ha hb R G h fun _ _ _ _ v _ _ r q=>q v r)⟩
theorem se_cmp {op : CmpOp} {o : OP} (ho : OpS X E (compareOp op) o) (ha : SimE X E a ma) (hb : SimE X E b mb) (hm : behindInMarks op b = false:=by first | exact nomark _ | rfl) : SimE X E (.Compare a [op] [b] pos) (mOp o ma mb):=
  ⟨fun Γ σ H ρ st Q R G h=>WE.of (pe_cmpR op_w pe_w pe_w hm) (bin_run ho ha hb R G h fun _ _ _ _ v _ _ r q=>q v r)⟩
def asB (p : PV) (st : Store) : Res Bool:=match p with
  | .bl k=>.ok k st
  | _=>.stuck
def toB (m : ME) : Gam -> Store -> Res Bool:=fun Γ st=>(m Γ st).bind asB
theorem acc_b {mg : Str -> Option Value} {H : Hp} {ρ : Tk} {st : Store} {p : PV} {v : V} {P : Bool -> Store -> Hp -> Tk -> Prop} (R : Rel H ρ st) (r : Rep H ρ p v) (h : Acc mg E H ρ P (asB p st)) : ∃ k,v = .bl k /\ P k st H ρ:=by
  cases p with
  | bl k=>exact ⟨k,r,h H ρ (Ext.refl _ _) R⟩
  | _=>exact h.elim
theorem st_cmp {op : CmpOp} {o : OP} (ho : OpS X E (compareOp op) o) (ha : SimE X E a ma) (hb : SimE X E b mb) (hm : behindInMarks op b = false:=by first | exact nomark _ | rfl) : SimT X E (.Compare a [op] [b] pos) (toB (mOp o ma mb)):=
  ⟨fun Γ σ H ρ st Q R G h=>WT.of (pt_cmpR op_w pe_w pe_w hm) (bin_run ho ha hb R G h.bind fun _ st1 _ _ v _ R1 r q=>by
    obtain ⟨k,e,z⟩:=acc_b R1 r q
    exact ⟨k,e,z⟩)⟩
theorem st_val {e : Expr} {m : ME} (h : SimE X E e m) (he : ∀ whole,isTrue e X.env whole = (do let v <- whole; standAt e.pos; holding [v] (truthy v)):=by intro _; rfl) : SimT X E e (toB m):=
  ⟨fun Γ σ H ρ st Q R G hq=>WT.of (pt_val pe_w he) (h.use R G hq.bind fun p st1 H1 ρ1 v x1 R1 G1 r1 h1=>by
    obtain ⟨k,e,z⟩:=acc_b R1 r1 h1
    exact ⟨k,e,z⟩)⟩
def mChain (o o' : OP) (ma mb mc : ME) : ME:=fun Γ st=>(ma Γ st).bind fun x st1=>(mb Γ st1).bind fun y st2=>(o st2 x y).bind fun k st3=>match k with
  | .bl true=>(mc Γ st3).bind fun z st4=>o' st4 y z
  | .bl false=>.ok (.bl false) st3
  | _=>.stuck
theorem chain_run {op op' : CmpOp} {o o' : OP} {Γ : Gam} {σ : St} {H : Hp} {ρ : Tk} {st : Store} {P : PV -> Store -> Hp -> Tk -> Prop} {Q : VK} (ho : OpS X E (compareOp op) o) (ho' : OpS X E (compareOp op') o') (ha : SimE X E a ma) (hb : SimE X E b mb) (hc : SimE X E c mc) (R : Rel H ρ st) (G : EnvR H ρ Γ σ) (h : Acc X.mg E H ρ P (mChain o o' ma mb mc Γ st))
    (k : ∀ p st1 H1 ρ1 v,Ext H ρ H1 ρ1 -> Rel H1 ρ1 st1 -> Rep H1 ρ1 p v -> P p st1 H1 ρ1 -> Q v H1) : tChain (WO X (compareOp op)) (WO X (compareOp op')) (WE X a) (WE X b) (WE X c) σ H Q:=by
  refine ha.use R G h.bind fun p st1 H1 ρ1 v x1 R1 G1 r1 h1=>?_
  refine hb.use R1 G1 h1.bind fun q st2 H2 ρ2 u x2 R2 G2 r2 h2=>?_
  refine ho.use R2 (r1.ext x2) r2 h2.bind fun w st3 H3 ρ3 z x3 R3 r3 h3=>?_
  cases w with
  | bl b=>
    refine ⟨b,r3,?_⟩
    cases b with
    | true=>
      rw [if_pos rfl]
      refine hc.use R3 (G2.ext x3) h3.bind fun y st4 H4 ρ4 yv x4 R4 G4 r4 h4=>?_
      exact ho'.use R4 (r2.ext (x3.trans x4)) r4 h4 fun w st5 H5 ρ5 z x5 R5 r5 p5=>k w st5 H5 ρ5 z (x1.trans (x2.trans (x3.trans (x4.trans x5)))) R5 r5 p5
    | false=>
      rw [if_neg Bool.false_ne_true]
      exact k (.bl false) _ H3 ρ3 _ (x1.trans (x2.trans x3)) R3 rfl (h3 H3 ρ3 (Ext.refl _ _) R3)
  | _=>exact h3.elim
theorem se_chain {op op' : CmpOp} {o o' : OP} (ho : OpS X E (compareOp op) o) (ho' : OpS X E (compareOp op') o') (ha : SimE X E a ma) (hb : SimE X E b mb) (hc : SimE X E c mc) (hm : lastMarks [op,op'] [b,c] = false:=by with_unfolding_all rfl) : SimE X E (.Compare a [op,op'] [b,c] pos) (mChain o o' ma mb mc):=
  ⟨fun Γ σ H ρ st Q R G h=>WE.of (pe_chain op_w op_w pe_w pe_w pe_w hm) (chain_run ho ho' ha hb hc R G h fun _ _ _ _ v _ _ r q=>q v r)⟩
variable {rest : List Expr}
def mAnd (ma mb : ME) : ME:=fun Γ st=>(ma Γ st).bind fun x st1=>match x with
  | .bl true=>mb Γ st1
  | .bl false=>.ok (.bl false) st1
  | _=>.stuck
def mNot (ma : ME) : ME:=fun Γ st=>(ma Γ st).bind fun x st1=>match x with
  | .bl k=>.ok (.bl (!k)) st1
  | _=>.stuck
theorem se_one {op : BoolOp} (ha : SimE X E a ma) : SimE X E (.BoolOp op [a] pos) ma:=⟨fun Γ σ H ρ st Q R G h=>WE.of (pe_one pe_w) (ha.use R G h fun _ _ _ _ v _ _ _ r q=>q v r)⟩
theorem se_and (ha : SimE X E a ma) (hb : SimE X E (.BoolOp .And (b :: rest) pos) mb) : SimE X E (.BoolOp .And (a :: b :: rest) pos) (mAnd ma mb):=
  ⟨fun Γ σ H ρ st Q R G h=>WE.of (pe_and pe_w pe_w) (ha.use R G h.bind fun p st1 H1 ρ1 v x1 R1 G1 r1 h1=>by
    cases p with
    | bl k=>
      refine ⟨k,r1,?_⟩
      cases k with
      | true=>rw [if_pos rfl]; exact hb.use R1 G1 h1 fun _ _ _ _ v _ _ _ r q=>q v r
      | false=>rw [if_neg Bool.false_ne_true]; exact now R1 h1 rfl
    | _=>exact h1.elim)⟩
theorem se_not (ha : SimE X E a ma) : SimE X E (.UnaryOp .Not a pos) (mNot ma):=
  ⟨fun Γ σ H ρ st Q R G h=>WE.of (pe_not pe_w) (ha.use R G h.bind fun p st1 H1 ρ1 v x1 R1 G1 r1 h1=>by
    cases p with
    | bl k=>exact ⟨k,r1,now R1 h1 rfl⟩
    | _=>exact h1.elim)⟩
def mNeg (ma : ME) : ME:=fun Γ st=>(ma Γ st).bind fun x st1=>match x with
  | .int k=>.ok (.int (-k)) st1
  | _=>.stuck
theorem se_neg (ha : SimE X E a ma) : SimE X E (.UnaryOp .USub a pos) (mNeg ma):=
  ⟨fun Γ σ H ρ st Q R G h=>WE.of (pe_un un_neg pe_w) (ha.use R G h.bind fun p st1 H1 ρ1 v x1 R1 G1 r1 h1=>by
    cases p with
    | int k=>exact ⟨k,r1,now R1 h1 rfl⟩
    | _=>exact h1.elim)⟩
abbrev MT:=Gam -> Store -> Res Bool
variable {ta tb : MT}
def tAndM (ta tb : MT) : MT:=fun Γ st=>(ta Γ st).bind fun k st1=>if k = true then tb Γ st1 else .ok false st1
def tOrM (ta tb : MT) : MT:=fun Γ st=>(ta Γ st).bind fun k st1=>if k = true then .ok true st1 else tb Γ st1
def tNotM (ta : MT) : MT:=fun Γ st=>(ta Γ st).bind fun k st1=>.ok (!k) st1
theorem SimW.t {e : Expr} (h : SimW X E e ta) : SimT X E e ta:=⟨fun Γ σ H ρ st Q R G q pins s I=>h.run Γ σ H ρ st Q R G q _ pins s I⟩
theorem sw_and1 (ha : SimT X E a ta) : SimW X E (.BoolOp .And [a] pos) ta:=⟨fun Γ σ H ρ st Q R G h=>WW.of (pw_and1 pt_w) (ha.use R G h fun _ _ _ _ _ _ _ q=>q)⟩
theorem sw_or1 (ha : SimT X E a ta) : SimW X E (.BoolOp .Or [a] pos) ta:=⟨fun Γ σ H ρ st Q R G h=>WW.of (pw_or1 pt_w) (ha.use R G h fun _ _ _ _ _ _ _ q=>q)⟩
theorem sw_and (ha : SimT X E a ta) (hb : SimW X E (.BoolOp .And (b :: rest) pos) tb) : SimW X E (.BoolOp .And (a :: b :: rest) pos) (tAndM ta tb):=
  ⟨fun Γ σ H ρ st Q R G h=>WW.of (pw_and pt_w pw_w) (ha.use R G h.bind fun k st1 H1 ρ1 x1 R1 G1 h1=>by
    cases k with
    | true=>rw [if_pos rfl] at h1 ⊢; exact hb.use R1 G1 h1 fun _ _ _ _ _ _ _ q=>q
    | false=>rw [if_neg Bool.false_ne_true] at h1 ⊢; exact h1 H1 ρ1 (Ext.refl _ _) R1)⟩
theorem sw_or (ha : SimT X E a ta) (hb : SimW X E (.BoolOp .Or (b :: rest) pos) tb) : SimW X E (.BoolOp .Or (a :: b :: rest) pos) (tOrM ta tb):=
  ⟨fun Γ σ H ρ st Q R G h=>WW.of (pw_or pt_w pw_w) (ha.use R G h.bind fun k st1 H1 ρ1 x1 R1 G1 h1=>by
    cases k with
    | true=>rw [if_pos rfl] at h1 ⊢; exact h1 H1 ρ1 (Ext.refl _ _) R1
    | false=>rw [if_neg Bool.false_ne_true] at h1 ⊢; exact hb.use R1 G1 h1 fun _ _ _ _ _ _ _ q=>q)⟩
theorem st_not (ha : SimT X E a ta) : SimT X E (.UnaryOp .Not a pos) (tNotM ta):=
  ⟨fun Γ σ H ρ st Q R G h=>WT.of (pt_not pt_w) (ha.use R G h.bind fun k st1 H1 ρ1 x1 R1 G1 h1=>h1 H1 ρ1 (Ext.refl _ _) R1)⟩
variable {e : Expr} {es : List Expr} {m : ME} {mr : Gam -> Store -> Res (List PV)}
def mNil : Gam -> Store -> Res (List PV):=fun _ st=>.ok [] st
def mCons (m : ME) (mr : Gam -> Store -> Res (List PV)) : Gam -> Store -> Res (List PV):=fun Γ st=>(m Γ st).bind fun p st1=>(mr Γ st1).bind fun ps st2=>.ok (p :: ps) st2
theorem sa_nil : SimA X E [] mNil:=⟨fun Γ σ H ρ st Q R G h=>WA.of pa_nil (h H ρ (Ext.refl _ _) R [] rfl)⟩
theorem sa_cons (ha : SimE X E e m) (hr : SimA X E es mr) (hs : starEach (e :: es) X.env = (false,eval e X.env) :: starEach es X.env:=by rfl) : SimA X E (e :: es) (mCons m mr):=
  ⟨fun Γ σ H ρ st Q R G h=>WA.of (pa_cons pe_w pa_w hs) (ha.use R G h.bind fun p st1 H1 ρ1 v x1 R1 G1 r1 h1=>hr.use R1 G1 h1.bind fun ps st2 H2 ρ2 vs x2 R2 G2 r2 h2=>
    h2 H2 ρ2 (Ext.refl _ _) R2 (v :: vs) ⟨v,vs,rfl,r1.ext x2,r2⟩)⟩
def mTup (mr : Gam -> Store -> Res (List PV)) : ME:=fun Γ st=>(mr Γ st).bind fun ps st1=>if ps.length <= lim then .ok (.tup ps) st1 else .stuck
def mLst (mr : Gam -> Store -> Res (List PV)) : ME:=fun Γ st=>(mr Γ st).bind fun ps st1=>if ps.length <= lim then .ok (.lst ps) st1 else .stuck
theorem se_tup {k : Nat} (h : SimA X E es mr) : SimE X E (.Tuple es k pos) (mTup mr):=
  ⟨fun Γ σ H ρ st Q R G hq=>WE.of (pe_tup pa_w) (h.use R G hq.bind fun ps st1 H1 ρ1 vs x1 R1 G1 r1 h1=>by
    by_cases hl : ps.length <= lim
    · rw [if_pos hl] at h1
      exact ⟨by rw [<- r1.length]; exact le_lim hl,new_tup R1 h1 r1⟩
    · rw [if_neg hl] at h1; exact h1.elim)⟩
theorem se_lst (h : SimA X E es mr) : SimE X E (.List es pos) (mLst mr):=
  ⟨fun Γ σ H ρ st Q R G hq=>WE.of (pe_lst pa_w) (h.use R G hq.bind fun ps st1 H1 ρ1 vs x1 R1 G1 r1 h1=>by
    by_cases hl : ps.length <= lim
    · rw [if_pos hl] at h1
      exact ⟨by rw [<- r1.length]; exact le_lim hl,new_lst R1 h1 r1⟩
    · rw [if_neg hl] at h1; exact h1.elim)⟩
end
end Sm
namespace HT
open PySem PySem.Spec PyProof.Rows
section
variable {prog : Program} {w : World} {A : Around} {E : Value -> Shared -> Prop} {s : Shared}
theorem getItem_tuple_whole {t sl : Addr} {items : Array Value} {vl vu : Value} {lo hi : Option Int} {Q : Value -> Shared -> Prop} (ht : IsTup s.heap t items) (hs : s.heap.IsSliceOf sl vl vu .none) (pl : IsPart vl lo) (pu : IsPart vu hi)
    (hw : sIx items.size 0 lo = 0 /\ sIx items.size items.size hi = items.size)
    (h : Q (.ref t) s) : wpAny (model prog w) A (getItem (.ref t) (.ref sl)) Q E s:=by
  obtain ⟨os,hos,hcs,hds⟩:=id hs
  have hTs : s.TypeIs (.ref sl) "slice" := ⟨os,hos,hcs⟩
  unfold getItem
  try with_reducible refine wpAny_holding ?_
  first | refine wpAny_bind (wpAny_pure ?_) | skip
  refine wpAny_bind (wpAny_sequenceKey ht.typeIs (by decide) ?_)
  refine wpAny_bind (wpAny_callSpecial?_slot (name:=Str.ofString "__getitem__") ht.typeIs PyProof.Rows.slot_tuple_getitem
    (wpAny_call_entry PyProof.Rows.slot_tuple_getitem ht.typeIs entry_tuple_getitem ?_ (args_tuple_getitem _ _)))
  show wpAny _ _ (Builtin.Tuple.tupleItemsOf (.ref t) >>= _) _ _ s
  refine wpAny_bind (tupleItemsOf_ ht ?_)
  refine wpAny_bind (wpAny_typeOf hTs ?_)
  rw [if_pos (by decide)]
  refine wpAny_bind (sliceApplied_gen hs pl pu ?_)
  have hyes : (((sIx items.size 0 lo : Nat) : Int) == 0 && (1 : Int) == 1 && (sIx items.size items.size hi - sIx items.size 0 lo) == items.size) = true:=by
    rw [hw.1,hw.2]; simp
  show wpAny _ _ (if (((sIx items.size 0 lo : Nat) : Int) == 0 && (1 : Int) == 1 && (sIx items.size items.size hi - sIx items.size 0 lo) == items.size) = true then _ else _) _ _ s
  rw [if_pos hyes]
  refine wpAny_bind (wpAny_bind (wpAny_typeOf ht.typeIs (wpAny_pure ?_)))
  rw [if_pos (by rfl)]
  exact wpAny_bind (wpAny_rule (wpAny_pure ⟨_,rfl,wpAny_pure h⟩))
end
end HT
namespace L2
open PySem PySem.Spec PyProof.Rows
def rSlW (K : PySem.W.Frag) : V -> Option Int -> Option Int -> Hp -> VK -> Prop:=fun x lo hi H Q=>∃ a xs,x = .ref a /\ SqT K H a xs /\
  (HT.sIx xs.length 0 lo = 0 /\ HT.sIx xs.length xs.length hi = xs.length) /\ Q (.ref a) H
theorem sl_whole {X : Cx} : SlR X (rSlW X.K):=by
  intro pins s σ H x v vl vu lo hi sl Q I rx hs pl pu h
  obtain ⟨a,xs,rfl,hx,hw,q⟩:=h
  cases rx
  obtain ⟨its,r,ht,hz⟩:=I.tuple hx
  have hlen : its.toArray.size = xs.length:=by rw [List.size_toArray]; exact r.length.symm
  refine ⟨"tuple",_,PyProof.Rows.slot_tuple_getitem.lookup,ht.typeIs,?_⟩
  exact HT.getItem_tuple_whole ht hs pl pu (by rw [hlen]; exact hw) ⟨.ref a,H,I,rfl,q⟩
end L2
namespace Sm
open PySem PySem.Spec L2
section
variable {X : Cx} {E : XK} {pos : Pos}
def oI (g : Int -> Int -> PV) : OP:=fun st p q=>match p,q with
  | .int a,.int b=>.ok (g a b) st
  | _,_=>.stuck
def oAdd : OP:=fun st p q=>match p,q with
  | .int a,.int b=>.ok (.int (a + b)) st
  | .str a,.str b=>if a.length + b.length <= lim then .ok (.str (a ++ b)) st else .stuck
  | .tup xs,.tup ys=>if xs.length + ys.length <= lim then .ok (.tup (xs ++ ys)) st else .stuck
  | p,q=>match lstOf st p,lstOf st q with
    | some xs,some ys=>if xs.length + ys.length <= lim then .ok (.lst (xs ++ ys)) st else .stuck
    | _,_=>.stuck
theorem os_add : OpS X E (binaryOp .Add) oAdd:=⟨fun H ρ st p q x y Q R rp rq h=>by
  unfold oAdd at h
  split at h
  · cases rp; cases rq
    exact WO.of op_add ⟨_,_,rfl,rfl,now R h rfl⟩
  · cases rp; cases rq
    split at h
    · rename_i hl
      exact WO.of op_add_str ⟨_,_,rfl,rfl,le_lim hl,now R h rfl⟩
    · exact h.elim
  · split at h
    · rename_i xs ys hl
      obtain ⟨a,vs,rfl,ha,na,ra⟩:=rp
      obtain ⟨b,us,rfl,hb,nb,rb⟩:=rq
      refine WO.of op_cat2 ?_
      by_cases e : xs = []
      · subst e
        cases ra
        exact .inr ⟨a,b,us,rfl,rfl,SqT.of ha,SqT.of hb,now R h ⟨b,us,rfl,hb,nb,rb⟩⟩
      · refine .inl ⟨a,b,vs,us,rfl,rfl,SqT.of ha,SqT.of hb,fun z=>e ?_,by rw [<- ra.length,<- rb.length]; exact le_lim hl,fun z=>?_,fun z=>new_tup R h (ra.append rb)⟩
        · subst z
          cases xs with
          | nil=>rfl
          | cons _ _=>have:=ra.length; simp at this
        · subst z
          have : ys = []:=by
            cases ys with
            | nil=>rfl
            | cons _ _=>have:=rb.length; simp at this
          subst this
          rw [List.append_nil] at h
          exact now R h ⟨a,vs,rfl,ha,na,ra⟩
    · exact h.elim
  · split at h
    · rename_i xs ys e1 e2
      split at h
      · rename_i hl
        obtain ⟨a,vs,rfl,ha,ra⟩:=lst_at R rp e1
        obtain ⟨b,us,rfl,hb,rb⟩:=lst_at R rq e2
        exact WO.of op_cat ⟨a,b,vs,us,rfl,rfl,ha,hb,by rw [<- ra.length,<- rb.length]; exact le_lim hl,new_lst R h (ra.append rb)⟩
      · exact h.elim
    · exact h.elim⟩
theorem os_sub : OpS X E (binaryOp .Sub) (oI fun a b=>.int (a - b)):=⟨fun H ρ st p q x y Q R rp rq h=>by
  unfold oI at h
  split at h
  · cases rp; cases rq
    exact WO.of op_sub ⟨_,_,rfl,rfl,now R h rfl⟩
  · exact h.elim⟩
def oMul : OP:=fun st p q=>match p,q with
  | .int a,.int b=>if (-(2 ^ 64) < a /\ a < 2 ^ 64) \/ (-(2 ^ 64) < b /\ b < 2 ^ 64) then .ok (.int (a * b)) st else .stuck
  | .tup xs,.int b=>if xs ≠ [] /\ 1 <= b /\ xs.length * b.toNat <= 4096 then .ok (.tup (List.replicate b.toNat xs).flatten) st else .stuck
  | p,.int b=>match lstOf st p with
    | some xs=>if -(2 ^ 63) <= b /\ b < 2 ^ 63 /\ xs.length * b.toNat <= lim then .ok (.lst (List.replicate b.toNat xs).flatten) st else .stuck
    | none=>.stuck
  | _,_=>.stuck
theorem os_mul : OpS X E (binaryOp .Mult) oMul:=⟨fun H ρ st p q x y Q R rp rq h=>by
  unfold oMul at h
  split at h
  · cases rp; cases rq
    split at h
    · rename_i hc
      exact WO.of op_mul ⟨_,_,rfl,rfl,hc,now R h rfl⟩
    · exact h.elim
  · cases rq
    split at h
    · rename_i xs b hc
      obtain ⟨a,vs,rfl,ha,na,ra⟩:=rp
      refine WO.of op_repT ⟨a,b,vs,rfl,rfl,SqT.of ha,fun z=>hc.1 ?_,hc.2.1,by rw [<- ra.length]; exact hc.2.2,fun z=>?_,fun z=>new_tup R h (ra.rep _)⟩
      · subst z
        cases xs with
        | nil=>rfl
        | cons _ _=>have:=ra.length; simp at this
      · subst z
        have e1 : (List.replicate (Int.toNat 1) xs).flatten = xs:=by simp
        rw [e1] at h
        exact now R h ⟨a,vs,rfl,ha,na,ra⟩
    · exact h.elim
  · cases rq
    split at h
    · rename_i xs e1
      split at h
      · rename_i hc
        obtain ⟨a,vs,rfl,ha,ra⟩:=lst_at R rp e1
        exact WO.of op_rep ⟨a,_,vs,rfl,rfl,ha,hc.1,hc.2.1,by rw [<- ra.length]; exact le_lim hc.2.2,new_lst R h (ra.rep _)⟩
      · exact h.elim
    · exact h.elim
  · exact h.elim⟩
def oMod : OP:=fun st p q=>match p,q with
  | .int a,.int b=>if 0 < b then .ok (.int (a % b)) st else .stuck
  | _,_=>.stuck
theorem os_mod : OpS X E (binaryOp .Mod) oMod:=⟨fun H ρ st p q x y Q R rp rq h=>by
  unfold oMod at h
  split at h
  · cases rp; cases rq
    split at h
    · rename_i hc
      exact WO.of op_mod ⟨_,_,rfl,rfl,hc,now R h rfl⟩
    · exact h.elim
  · exact h.elim⟩
def oDiv : OP:=fun st p q=>match p,q with
  | .int a,.int b=>if 0 < b /\ b < 1073741824 then .ok (.int (a / b)) st else .stuck
  | _,_=>.stuck
theorem os_div : OpS X E (binaryOp .FloorDiv) oDiv:=⟨fun H ρ st p q x y Q R rp rq h=>by
  unfold oDiv at h
  split at h
  · cases rp; cases rq
    split at h
    · rename_i hc
      exact WO.of op_fdiv ⟨_,_,rfl,rfl,hc,now R h rfl⟩
    · exact h.elim
  · exact h.elim⟩
def oPow : OP:=fun st p q=>match p,q with
  | .int a,.int b=>if 0 <= b /\ b <= 1000000 /\ a.natAbs < 2 ^ 64 then .ok (.int (a ^ b.toNat)) st else .stuck
  | _,_=>.stuck
theorem os_pow : OpS X E (binaryOp .Pow) oPow:=⟨fun H ρ st p q x y Q R rp rq h=>by
  unfold oPow at h
  split at h
  · cases rp; cases rq
    split at h
    · rename_i hc
      exact WO.of op_pow ⟨_,_,rfl,rfl,hc,now R h rfl⟩
    · exact h.elim
  · exact h.elim⟩
theorem oI_cmp {op : CmpOp} {g : Int -> Int -> Bool} (ho : OpR X (compareOp op) (rI0 fun i j=>.bl (g i j))) : OpS X E (compareOp op) (oI fun a b=>.bl (g a b)):=⟨fun H ρ st p q x y Q R rp rq h=>by
  unfold oI at h
  split at h
  · cases rp; cases rq
    exact WO.of ho ⟨_,_,rfl,rfl,now R h rfl⟩
  · exact h.elim⟩
theorem os_le : OpS X E (compareOp .LtE) (oI fun a b=>.bl (decide (a <= b))):=oI_cmp op_le
theorem os_gt : OpS X E (compareOp .Gt) (oI fun a b=>.bl (decide (b < a))):=oI_cmp op_gt
def intsOf : List PV -> Option (List Int)
  | []=>some []
  | .int i :: ps=>(intsOf ps).map (i :: ·)
  | _ :: _=>none
def blsOf : List PV -> Option (List Bool)
  | []=>some []
  | .bl i :: ps=>(blsOf ps).map (i :: ·)
  | _ :: _=>none
theorem ints_map (ns : List Int) : intsOf (ns.map .int) = some ns:=by
  induction ns with
  | nil=>rfl
  | cons n ns ih=>rw [List.map_cons,intsOf,ih]; rfl
theorem bls_map (ns : List Bool) : blsOf (ns.map .bl) = some ns:=by
  induction ns with
  | nil=>rfl
  | cons n ns ih=>rw [List.map_cons,blsOf,ih]; rfl
theorem ints_eq : ∀ {ps : List PV} {ns : List Int},intsOf ps = some ns -> ps = ns.map .int
  | [],ns,h=>by cases h; rfl
  | .int i :: ps,ns,h=>by
    rw [intsOf] at h
    cases e : intsOf ps with
    | none=>rw [e] at h; cases h
    | some ms=>rw [e] at h; cases h; rw [ints_eq e]; rfl
  | .non :: _,_,h | .bl _ :: _,_,h | .str _ :: _,_,h | .tup _ :: _,_,h | .lst _ :: _,_,h | .fro _ :: _,_,h | .ref _ :: _,_,h | .dic :: _,_,h=>by cases h
theorem bls_eq : ∀ {ps : List PV} {ns : List Bool},blsOf ps = some ns -> ps = ns.map .bl
  | [],ns,h=>by cases h; rfl
  | .bl i :: ps,ns,h=>by
    rw [blsOf] at h
    cases e : blsOf ps with
    | none=>rw [e] at h; cases h
    | some ms=>rw [e] at h; cases h; rw [bls_eq e]; rfl
  | .non :: _,_,h | .int _ :: _,_,h | .str _ :: _,_,h | .tup _ :: _,_,h | .lst _ :: _,_,h | .fro _ :: _,_,h | .ref _ :: _,_,h | .dic :: _,_,h=>by cases h
def oLt : OP:=fun st p q=>match p,q with
  | .int a,.int b=>.ok (.bl (decide (a < b))) st
  | .tup xs,.tup ys=>match intsOf xs,intsOf ys with
    | some ns,some ms=>.ok (.bl (HT.lexLt ns ms)) st
    | _,_=>.stuck
  | _,_=>.stuck
theorem os_lt (hu : X.A.units + 64 < cLine) : OpS X E (compareOp .Lt) oLt:=⟨fun H ρ st p q x y Q R rp rq h=>by
  unfold oLt at h
  split at h
  · cases rp; cases rq
    exact WO.of op_lt ⟨_,_,rfl,rfl,now R h rfl⟩
  · split at h
    · rename_i ns ms e1 e2
      obtain ⟨a,vs,rfl,ha,na,ra⟩:=rp
      obtain ⟨b,us,rfl,hb,nb,rb⟩:=rq
      rw [ints_eq e1] at ra
      rw [ints_eq e2] at rb
      rw [ra.toInts] at ha
      rw [rb.toInts] at hb
      exact WO.of (op_ltT (by omega)) ⟨a,b,ns,ms,rfl,rfl,SqT.of ha,SqT.of hb,now R h rfl⟩
    · exact h.elim
  · exact h.elim⟩
def dep : Nat:=12
def oEq : OP:=fun st p q=>if good dep (der st p) = true /\ good dep (der st q) = true then .ok (.bl (peq (der st p) (der st q))) st else .stuck
def oNe : OP:=fun st p q=>if good dep (der st p) = true /\ good dep (der st q) = true then .ok (.bl (!peq (der st p) (der st q))) st else .stuck
theorem os_eq (hu : X.A.units + 64 < cLine) : OpS X E (compareOp .Eq) oEq:=⟨fun H ρ st p q x y Q R rp rq h=>by
  unfold oEq at h
  split at h
  · rename_i g
    intro pins s σ v u I rv ru
    exact (eqAts dep I g.1 g.2 (by unfold dep; omega) (der_rep R g.1 rp) rv (der_rep R g.2 rq) ru).2.1 _ _ _ _ ⟨.bl _,H,I,rfl,now R h rfl⟩
  · exact h.elim⟩
theorem os_ne (hu : X.A.units + 64 < cLine) : OpS X E (compareOp .NotEq) oNe:=⟨fun H ρ st p q x y Q R rp rq h=>by
  unfold oNe at h
  split at h
  · rename_i g
    intro pins s σ v u I rv ru
    exact (eqAts dep I g.1 g.2 (by unfold dep; omega) (der_rep R g.1 rp) rv (der_rep R g.2 rq) ru).2.2 _ _ _ _ ⟨.bl _,H,I,rfl,now R h rfl⟩
  · exact h.elim⟩
def oIn (neg : Bool) : OP:=fun st p q=>match seqOf st q with
  | some xs=>if good dep (der st p) = true /\ xs.all (good dep) = true then .ok (.bl ((xs.any fun y=>peq y (der st p)) != neg)) st else .stuck
  | none=>.stuck
open Classical in
theorem in_items {pins : List (Addr × Obj)} {σ : St} {H : Hp} {ρ : Tk} {s : Shared} {A : Around} {st : Store} {p : PV} {xs : List PV} {x : V} {v : Value} {vs : List V} {its : List Value} (I : Inv X pins σ H s) (hu : A.units + dep < cLine) (R : Rel H ρ st)
    (gp : good dep (der st p) = true) (gx : xs.all (good dep) = true) (rp : Rep H ρ p x) (rv : RelV x v) (ra : RepL H ρ xs vs) (vi : Vals vs its) : ∃ e : Value -> Bool,(∀ u,u ∈ its.toArray -> SeqAt.EqAt A s u v (e u)) /\ its.toArray.any e = xs.any fun y=>peq y (der st p):=by
  have key : ∀ u ∈ its,∃ q ∈ xs,∃ y,Rep H Tk.nil q y /\ RelV y u:=fun u hu=>by
    obtain ⟨j,hj,rfl⟩:=List.getElem_of_mem hu
    have l1:=vi.length
    have l2:=ra.length
    obtain ⟨y,e1,e2⟩:=(repL_nil gx ra).get (List.getElem?_eq_getElem (show j < xs.length by omega))
    obtain ⟨w,e3,e4⟩:=vi.get e1
    rw [List.getElem?_eq_getElem hj] at e3; cases e3
    exact ⟨_,List.getElem_mem _,y,e2,e4⟩
  refine ⟨fun u=>decide (∃ q ∈ xs,∃ y,Rep H Tk.nil q y /\ RelV y u /\ peq q (der st p) = true),fun u hm=>?_,?_⟩
  · have hm' : u ∈ its:=by simpa using hm
    by_cases z : ∃ q ∈ xs,∃ y,Rep H Tk.nil q y /\ RelV y u /\ peq q (der st p) = true
    · show SeqAt.EqAt A s u v (decide _)
      rw [decide_eq_true z]
      obtain ⟨q,hq,y,r1,r2,e⟩:=z
      have:=(eqAts dep I ((List.all_eq_true.mp gx) q hq) gp hu r1 r2 (der_rep R gp rp) rv).1
      rw [e] at this
      exact this
    · show SeqAt.EqAt A s u v (decide _)
      rw [decide_eq_false z]
      obtain ⟨q,hq,y,r1,r2⟩:=key u hm'
      have:=(eqAts dep I ((List.all_eq_true.mp gx) q hq) gp hu r1 r2 (der_rep R gp rp) rv).1
      cases e : peq q (der st p) with
      | true=>exact absurd ⟨q,hq,y,r1,r2,e⟩ z
      | false=>rw [e] at this; exact this
  · rw [Bool.eq_iff_iff,Array.any_eq_true,List.any_eq_true]
    constructor
    · rintro ⟨j,hj,e⟩
      obtain ⟨q,hq,y,r1,r2,e⟩:=of_decide_eq_true e
      exact ⟨q,hq,e⟩
    · rintro ⟨q,hq,e⟩
      obtain ⟨j,hj,rfl⟩:=List.getElem_of_mem hq
      have l1:=vi.length
      have l2:=ra.length
      have hj' : j < its.length:=by omega
      obtain ⟨y,e1,e2⟩:=(repL_nil gx ra).get (List.getElem?_eq_getElem hj)
      obtain ⟨w,e3,e4⟩:=vi.get e1
      refine ⟨j,by simpa using hj',decide_eq_true ⟨_,hq,y,e2,?_,e⟩⟩
      rw [List.getElem?_eq_getElem hj'] at e3; cases e3
      simpa using e4
theorem os_in (hu : X.A.units + 64 < cLine) : OpS X E (compareOp .In) (oIn false):=⟨fun H ρ st p q x y Q R rp rq h=>by
  unfold oIn at h
  split at h
  · rename_i xs es
    split at h
    · rename_i g
      obtain ⟨t,a,vs,rfl,hq,ra⟩:=seq_at (K:=X.K) R rq es
      intro pins s σ v u I rv ru
      cases ru
      rw [Bool.bne_false] at h
      cases t with
      | true=>
        obtain ⟨its,r,pl,hz⟩:=I.tuple hq
        obtain ⟨e,he,ea⟩:=in_items (A:=X.A.in1) I (by show X.A.units + 1 + dep < cLine; unfold dep; omega) R g.1 g.2 rp rv ra r
        refine SeqAt.in_tupleAt e pl he ⟨.bl _,H,I,rfl,?_⟩
        rw [ea]
        exact now R h rfl
      | false=>
        obtain ⟨its,r,pl,hz⟩:=I.list hq
        obtain ⟨e,he,ea⟩:=in_items (A:=X.A.in1) I (by show X.A.units + 1 + dep < cLine; unfold dep; omega) R g.1 g.2 rp rv ra r
        refine SeqAt.in_listAt e pl.isList he ⟨.bl _,H,I,rfl,?_⟩
        rw [ea]
        exact now R h rfl
    · exact h.elim
  · exact h.elim⟩
theorem os_notin (hu : X.A.units + 64 < cLine) : OpS X E (compareOp .NotIn) (oIn true):=⟨fun H ρ st p q x y Q R rp rq h=>by
  unfold oIn at h
  split at h
  · rename_i xs es
    split at h
    · rename_i g
      obtain ⟨t,a,vs,rfl,hq,ra⟩:=seq_at (K:=X.K) R rq es
      intro pins s σ v u I rv ru
      cases ru
      rw [Bool.bne_true] at h
      cases t with
      | true=>
        obtain ⟨its,r,pl,hz⟩:=I.tuple hq
        obtain ⟨e,he,ea⟩:=in_items (A:=X.A.in1) I (by show X.A.units + 1 + dep < cLine; unfold dep; omega) R g.1 g.2 rp rv ra r
        refine SeqAt.notIn_tupleAt e pl he ⟨.bl _,H,I,rfl,?_⟩
        rw [ea]
        exact now R h rfl
      | false=>
        obtain ⟨its,r,pl,hz⟩:=I.list hq
        obtain ⟨e,he,ea⟩:=in_items (A:=X.A.in1) I (by show X.A.units + 1 + dep < cLine; unfold dep; omega) R g.1 g.2 rp rv ra r
        refine SeqAt.notIn_listAt e pl.isList he ⟨.bl _,H,I,rfl,?_⟩
        rw [ea]
        exact now R h rfl
    · exact h.elim
  · exact h.elim⟩
end
end Sm
namespace Sm
open PySem PySem.Spec L2
section
variable {H : Hp} {ρ : Tk}
theorem RepL.atI {ps : List PV} {vs : List V} {i : Int} {p : PV} (r : RepL H ρ ps vs) (e : atI ps i = some p) : ∃ v,L2.atI vs i = some v /\ Rep H ρ p v:=by
  unfold L2.atI at e ⊢
  rw [<- r.length]
  cases q : ixN ps.length i with
  | none=>rw [q] at e; cases e
  | some j=>
    rw [q] at e
    exact r.get e
def cut {α : Type} (xs : List α) (lo hi : Option Int) : List α:=(xs.drop (HT.sIx xs.length 0 lo)).take (HT.sIx xs.length xs.length hi - HT.sIx xs.length 0 lo)
theorem RepL.cut {ps : List PV} {vs : List V} (r : RepL H ρ ps vs) (lo hi : Option Int) : RepL H ρ (Sm.cut ps lo hi) (cutV vs lo hi):=by
  unfold Sm.cut cutV
  rw [<- r.length]
  exact (r.drop _).take _
end
section
variable {X : Cx} {E : XK} {pos : Pos} {a b : Expr} {ma mb : ME}
def oIx : OP:=fun st p q=>match seqOf st p,q with
  | some xs,.int i=>okO st (atI xs i)
  | _,_=>.stuck
theorem se_ix (ha : SimE X E a ma) (hb : SimE X E b mb) (hs : PlainIx b:=by exact fun _ _=>rfl) : SimE X E (.Subscript a b pos) (mOp oIx ma mb):=
  ⟨fun Γ σ H ρ st Q R G h=>WE.of (pe_ix ix_seq pe_w pe_w hs) (ha.use R G h.bind fun p st1 H1 ρ1 v x1 R1 G1 r1 h1=>hb.use R1 G1 h1.bind fun q st2 H2 ρ2 u x2 R2 G2 r2 h2=>by
    unfold oIx at h2
    split at h2
    · rename_i xs i e
      cases r2
      cases ea : atI xs i with
      | none=>rw [ea] at h2; exact h2.elim
      | some w=>
        rw [ea] at h2
        obtain ⟨t,b,vs,rfl,hq,ra⟩:=seq_at (K:=X.K) R2 (r1.ext x2) e
        obtain ⟨z,ez,rz⟩:=ra.atI ea
        cases t with
        | true=>exact .inr (.inl ⟨b,vs,i,z,rfl,rfl,hq,ez,now R2 h2 rz⟩)
        | false=>exact .inl ⟨b,vs,i,z,rfl,rfl,hq,ez,now R2 h2 rz⟩
    · exact h2.elim)⟩
structure SimO (X : Cx) (E : XK) (o : Option Expr) (m : Gam -> Store -> Res (Option Int)) : Prop where
  run : ∀ (Γ : Gam) (σ : St) (H : Hp) (ρ : Tk) (st : Store) (P : Option Int -> Store -> Hp -> Tk -> Prop) (Q : Option Int -> Hp -> Prop),Rel H ρ st -> EnvR H ρ Γ σ -> Acc X.mg E H ρ P (m Γ st) ->
    (∀ i st1 H1 ρ1,Ext H ρ H1 ρ1 -> Rel H1 ρ1 st1 -> EnvR H1 ρ1 Γ σ -> P i st1 H1 ρ1 -> Q i H1) -> ∃ t,PO X o t /\ t σ H Q
def mNoPart : Gam -> Store -> Res (Option Int):=fun _ st=>.ok none st
def mPart (m : ME) : Gam -> Store -> Res (Option Int):=fun Γ st=>(m Γ st).bind fun p st1=>match p with
  | .int i=>.ok (some i) st1
  | _=>.stuck
theorem so_none : SimO X E none mNoPart:=⟨fun Γ σ H ρ st P Q R G h k=>⟨_,po_none,k none st H ρ (Ext.refl _ _) R G (h H ρ (Ext.refl _ _) R)⟩⟩
theorem so_some (ha : SimE X E a ma) : SimO X E (some a) (mPart ma):=⟨fun Γ σ H ρ st P Q R G h k=>⟨_,po_some pe_w,ha.use R G h.bind fun p st1 H1 ρ1 v x1 R1 G1 r1 h1=>by
  cases p with
  | int i=>exact ⟨i,r1,k (some i) st1 H1 ρ1 x1 R1 G1 (h1 H1 ρ1 (Ext.refl _ _) R1)⟩
  | _=>exact h1.elim⟩⟩
def oSl (st : Store) (p : PV) (lo hi : Option Int) : Res PV:=match p with
  | .tup xs=>.ok (.tup (cut xs lo hi)) st
  | p=>match listOf st p with
    | some xs=>.ok (.lst (cut xs lo hi)) st
    | none=>.stuck
def mSl (ma : ME) (ml mh : Gam -> Store -> Res (Option Int)) : ME:=fun Γ st=>(ma Γ st).bind fun p st1=>(ml Γ st1).bind fun lo st2=>(mh Γ st2).bind fun hi st3=>oSl st3 p lo hi
def TO.w (X : Cx) (o : Option Expr) : TO:=fun σ H Q=>∃ t,PO X o t /\ t σ H Q
theorem po_w {o : Option Expr} : PO X o (TO.w X o):=fun pins s σ H Q I ⟨t,h,q⟩=>h pins s σ H Q I q
theorem se_slice {lo hi : Option Expr} {ml mh : Gam -> Store -> Res (Option Int)} {p2 : Pos} (ha : SimE X E a ma) (hl : SimO X E lo ml) (hh : SimO X E hi mh) : SimE X E (.Subscript a (.Slice lo hi none p2) pos) (mSl ma ml mh):=
  ⟨fun Γ σ H ρ st Q R G h=>WE.of (pe_slice (sl_tup.or (sl_whole.or sl_list)) pe_w po_w po_w) (ha.use R G h.bind fun p st1 H1 ρ1 v x1 R1 G1 r1 h1=>by
    refine hl.run Γ σ H1 ρ1 st1 _ _ R1 G1 h1.bind fun l st2 H2 ρ2 x2 R2 G2 h2=>?_
    refine hh.run Γ σ H2 ρ2 st2 _ _ R2 G2 h2.bind fun u st3 H3 ρ3 x3 R3 G3 h3=>?_
    have r3:=r1.ext (x2.trans x3)
    unfold oSl at h3
    split at h3
    · rename_i xs
      obtain ⟨a,vs,rfl,ha,na,ra⟩:=r3
      by_cases hw : HT.sIx vs.length 0 l = 0 /\ HT.sIx vs.length vs.length u = vs.length
      · refine .inr (.inl ⟨a,vs,rfl,SqT.of ha,hw,?_⟩)
        have e : cut xs l u = xs:=by
          unfold cut
          rw [ra.length,hw.1,hw.2,List.drop_zero,Nat.sub_zero,<- ra.length,List.take_length]
        rw [e] at h3
        exact now R3 h3 ⟨a,vs,rfl,ha,na,ra⟩
      · exact .inl ⟨a,vs,rfl,SqT.of ha,hw,new_tup R3 h3 (ra.cut l u)⟩
    · split at h3
      · rename_i xs e
        obtain ⟨a,vs,rfl,ha,ra⟩:=list_at R3 r3 e
        exact .inr (.inr ⟨a,vs,rfl,.inl ha,new_lst R3 h3 (ra.cut l u)⟩)
      · exact h3.elim)⟩
variable {es : List Expr} {e : Expr} {mr : Gam -> Store -> Res (List PV)}
def mCall (o : CF) (mr : Gam -> Store -> Res (List PV)) : ME:=fun Γ st=>(mr Γ st).bind fun ps st1=>o st1 ps
theorem CallS.use {f : Value} {o : CF} (s : CallS X E f o) {P : PV -> Store -> Hp -> Tk -> Prop} {Q : VK} {H : Hp} {ρ : Tk} {st : Store} {ps : List PV} {xs : List V} (R : Rel H ρ st) (rp : RepL H ρ ps xs) (h : Acc X.mg E H ρ P (o st ps))
    (k : ∀ p st1 H1 ρ1 v,Ext H ρ H1 ρ1 -> Rel H1 ρ1 st1 -> Rep H1 ρ1 p v -> P p st1 H1 ρ1 -> Q v H1) : WC X f xs H Q:=by
  refine s.run H ρ st ps xs Q R rp ?_
  cases r : o st ps with
  | ok p st1=>rw [r] at h; exact fun H' ρ' x' R' v rv=>k p st1 H' ρ' v x' R' rv (h H' ρ' x' R')
  | exc e st=>rw [r] at h; exact h
  | stuck=>rw [r] at h; exact h
theorem se_callB {id : String} {x : Str} {p : Pos} {o : CF} (hc : CallS X E (.builtin id) o) (hg : Gl X x) (hm : X.mg x = none) (hv : bootBuiltins x = some (.builtin id)) (ha : SimA X E (e :: es) mr) (hn : x ≠ "__name__" := by decide) (hdb : (x == ("__debug__" : Str)) = false:=by decide)
    (he : starEach (e :: es) X.env = (false,eval e X.env) :: starEach es X.env:=by rfl) (hpl : (backTo pos (starEach es X.env)).any (·.1) = false:=by rfl) : SimE X E (.Call (.Name x p) (e :: es) [] pos) (mCall o mr):=
  ⟨fun Γ σ H ρ st Q R G h=>WE.of (pe_callB call_w hg hm hv pa_w hn hdb he hpl) (ha.use R G h.bind fun ps st1 H1 ρ1 vs x1 R1 G1 r1 h1=>hc.use R1 r1 h1 fun _ _ _ _ v _ _ r q=>q v r)⟩
theorem se_callT {T : String} {x : Str} {p : Pos} {o : CF} (hc : CallS X E (.type T) o) (hg : Gl X x) (hm : X.mg x = none) (hv : bootBuiltins x = some (.type T)) (ha : SimA X E (e :: es) mr) (hn : x ≠ "__name__" := by decide) (hdb : (x == ("__debug__" : Str)) = false:=by decide)
    (he : starEach (e :: es) X.env = (false,eval e X.env) :: starEach es X.env:=by rfl) (hpl : (backTo pos (starEach es X.env)).any (·.1) = false:=by rfl) : SimE X E (.Call (.Name x p) (e :: es) [] pos) (mCall o mr):=
  ⟨fun Γ σ H ρ st Q R G h=>WE.of (pe_callTy call_w hg hm hv pa_w hn hdb he hpl) (ha.use R G h.bind fun ps st1 H1 ρ1 vs x1 R1 G1 r1 h1=>hc.use R1 r1 h1 fun _ _ _ _ v _ _ r q=>q v r)⟩
theorem repL_one {H : Hp} {ρ : Tk} {p : PV} {xs : List V} (r : RepL H ρ [p] xs) : ∃ v,xs = [v] /\ Rep H ρ p v:=by
  obtain ⟨v,t,rfl,h1,h2⟩:=r
  cases h2
  exact ⟨v,rfl,h1⟩
theorem repL_two {H : Hp} {ρ : Tk} {p q : PV} {xs : List V} (r : RepL H ρ [p,q] xs) : ∃ v u,xs = [v,u] /\ Rep H ρ p v /\ Rep H ρ q u:=by
  obtain ⟨v,t,rfl,h1,h2⟩:=r
  obtain ⟨u,rfl,h3⟩:=repL_one h2
  exact ⟨v,u,rfl,h1,h3⟩
def cLen : CF:=fun st ps=>match ps with
  | [p]=>match seqOf st p with
    | some xs=>.ok (.int xs.length) st
    | none=>match p with
      | .str x=>if x.length <= lim then .ok (.int x.length) st else .stuck
      | _=>.stuck
  | _=>.stuck
theorem cs_len : CallS X E (.builtin "len") cLen:=⟨fun H ρ st ps xs Q R rp h=>by
  unfold cLen at h
  split at h
  · rename_i p
    obtain ⟨v,rfl,r⟩:=repL_one rp
    split at h
    · rename_i ys e
      obtain ⟨t,a,vs,rfl,hq,ra⟩:=seq_at (K:=X.K) R r e
      rw [ra.length] at h
      exact WC.of call_len_seq ⟨a,vs,rfl,sqK_or hq,now R h rfl⟩
    · split at h
      · cases r
        split at h
        · rename_i hl
          exact WC.of call_len_str ⟨_,rfl,le_lim hl,now R h rfl⟩
        · exact h.elim
      · exact h.elim
  · exact h.elim⟩
def cInts (g : List Int -> Option PV) : CF:=fun st ps=>match ps with
  | [p]=>match (seqOf st p).bind intsOf with
    | some ns=>okO st (g ns)
    | none=>.stuck
  | _=>.stuck
def cBls (g : List Bool -> PV) : CF:=fun st ps=>match ps with
  | [p]=>match (seqOf st p).bind blsOf with
    | some ns=>.ok (g ns) st
    | none=>.stuck
  | _=>.stuck
theorem ints_at' {K : PySem.W.Frag} {H : Hp} {ρ : Tk} {st : Store} {p : PV} {v : V} {ns : List Int} (R : Rel H ρ st) (r : Rep H ρ p v) (e : (seqOf st p).bind intsOf = some ns) : ∃ (t : Bool) (a : Addr),v = .ref a /\ SqK K t H a (ns.map V.int):=by
  cases q : seqOf st p with
  | none=>rw [q] at e; cases e
  | some xs=>
    rw [q] at e
    obtain ⟨t,a,vs,rfl,hq,ra⟩:=seq_at (K:=K) R r q
    rw [ints_eq e] at ra
    rw [ra.toInts] at hq
    exact ⟨t,a,rfl,hq⟩
theorem bls_at' {K : PySem.W.Frag} {H : Hp} {ρ : Tk} {st : Store} {p : PV} {v : V} {ns : List Bool} (R : Rel H ρ st) (r : Rep H ρ p v) (e : (seqOf st p).bind blsOf = some ns) : ∃ (t : Bool) (a : Addr),v = .ref a /\ SqK K t H a (ns.map V.bl):=by
  cases q : seqOf st p with
  | none=>rw [q] at e; cases e
  | some xs=>
    rw [q] at e
    obtain ⟨t,a,vs,rfl,hq,ra⟩:=seq_at (K:=K) R r q
    rw [bls_eq e] at ra
    rw [ra.toBls] at hq
    exact ⟨t,a,rfl,hq⟩
theorem cs_sum (hc : X.calm = true) : CallS X E (.builtin "sum") (cInts fun ns=>some (.int ns.sum)):=⟨fun H ρ st ps xs Q R rp h=>by
  unfold cInts at h
  split at h
  · obtain ⟨v,rfl,r⟩:=repL_one rp
    split at h
    · rename_i ns e
      obtain ⟨t,a,rfl,hq⟩:=ints_at' (K:=X.K) R r e
      exact WC.of (call_sum t hc) ⟨a,ns,rfl,hq,now R h rfl⟩
    · exact h.elim
  · exact h.elim⟩
theorem cs_all (hc : X.calm = true) : CallS X E (.builtin "all") (cBls fun ns=>.bl (ns.all id)):=⟨fun H ρ st ps xs Q R rp h=>by
  unfold cBls at h
  split at h
  · obtain ⟨v,rfl,r⟩:=repL_one rp
    split at h
    · rename_i ns e
      obtain ⟨t,a,rfl,hq⟩:=bls_at' (K:=X.K) R r e
      exact WC.of (call_all t hc) ⟨a,ns,rfl,hq,now R h rfl⟩
    · exact h.elim
  · exact h.elim⟩
def maxI : List Int -> Option Int
  | []=>none
  | n :: ns=>some (ns.foldl (fun a b=>if b > a then b else a) n)
def minI : List Int -> Option Int
  | []=>none
  | n :: ns=>some (ns.foldl (fun a b=>if b < a then b else a) n)
theorem foldl_max : ∀ (ns : List Int) (n : Int),(ns.foldl (fun a b=>if b > a then b else a) n = n \/ ns.foldl (fun a b=>if b > a then b else a) n ∈ ns) /\ n <= ns.foldl (fun a b=>if b > a then b else a) n /\ ∀ k ∈ ns,k <= ns.foldl (fun a b=>if b > a then b else a) n
  | [],n=>⟨.inl rfl,Int.le_refl _,fun k h=>by cases h⟩
  | m :: ns,n=>by
    obtain ⟨h1,h2,h3⟩:=foldl_max ns (if m > n then m else n)
    rw [List.foldl_cons]
    refine ⟨?_,?_,fun k hk=>?_⟩
    · rcases h1 with e | e
      · by_cases hm : m > n
        · rw [if_pos hm] at e ⊢; exact .inr (by rw [e]; exact List.mem_cons_self)
        · rw [if_neg hm] at e ⊢; exact .inl e
      · exact .inr (List.mem_cons_of_mem _ e)
    · by_cases hm : m > n
      · rw [if_pos hm] at h2 ⊢; omega
      · rw [if_neg hm] at h2 ⊢; exact h2
    · rcases List.mem_cons.mp hk with rfl | hk
      · by_cases hm : k > n
        · rw [if_pos hm] at h2 ⊢; exact h2
        · rw [if_neg hm] at h2 ⊢; omega
      · exact h3 k hk
theorem foldl_min : ∀ (ns : List Int) (n : Int),(ns.foldl (fun a b=>if b < a then b else a) n = n \/ ns.foldl (fun a b=>if b < a then b else a) n ∈ ns) /\ ns.foldl (fun a b=>if b < a then b else a) n <= n /\ ∀ k ∈ ns,ns.foldl (fun a b=>if b < a then b else a) n <= k
  | [],n=>⟨.inl rfl,Int.le_refl _,fun k h=>by cases h⟩
  | m :: ns,n=>by
    obtain ⟨h1,h2,h3⟩:=foldl_min ns (if m < n then m else n)
    rw [List.foldl_cons]
    refine ⟨?_,?_,fun k hk=>?_⟩
    · rcases h1 with e | e
      · by_cases hm : m < n
        · rw [if_pos hm] at e ⊢; exact .inr (by rw [e]; exact List.mem_cons_self)
        · rw [if_neg hm] at e ⊢; exact .inl e
      · exact .inr (List.mem_cons_of_mem _ e)
    · by_cases hm : m < n
      · rw [if_pos hm] at h2 ⊢; omega
      · rw [if_neg hm] at h2 ⊢; exact h2
    · rcases List.mem_cons.mp hk with rfl | hk
      · by_cases hm : k < n
        · rw [if_pos hm] at h2 ⊢; exact h2
        · rw [if_neg hm] at h2 ⊢; omega
      · exact h3 k hk
def cMax : CF:=fun st ps=>match ps with
  | [.int a,.int b]=>.ok (.int (if b > a then b else a)) st
  | ps=>cInts (fun ns=>(maxI ns).map .int) st ps
def cMin : CF:=fun st ps=>match ps with
  | [.int a,.int b]=>.ok (.int (if b < a then b else a)) st
  | ps=>cInts (fun ns=>(minI ns).map .int) st ps
theorem cs_max (hc : X.calm = true) : CallS X E (.builtin "max") cMax:=⟨fun H ρ st ps xs Q R rp h=>by
  unfold cMax at h
  split at h
  · obtain ⟨v,u,rfl,r1,r2⟩:=repL_two rp
    cases r1; cases r2
    exact WC.of (call_max2 hc) ⟨_,_,rfl,now R h rfl⟩
  · unfold cInts at h
    split at h
    · obtain ⟨v,rfl,r⟩:=repL_one rp
      split at h
      · rename_i ns e
        cases ns with
        | nil=>exact h.elim
        | cons n ns=>
          obtain ⟨t,a,rfl,hq⟩:=ints_at' (K:=X.K) R r e
          refine WC.of (call_maxL t hc) ⟨a,_,rfl,hq,by simp,fun m hm hk=>?_⟩
          have em : m = ns.foldl (fun a b=>if b > a then b else a) n:=by
            obtain ⟨h1,h2,h3⟩:=foldl_max ns n
            have g1 : ns.foldl (fun a b=>if b > a then b else a) n <= m:=by
              rcases h1 with e | e
              · rw [e]; exact hk _ List.mem_cons_self
              · exact hk _ (List.mem_cons_of_mem _ e)
            have g2 : m <= ns.foldl (fun a b=>if b > a then b else a) n:=by
              rcases List.mem_cons.mp hm with rfl | hm
              · exact h2
              · exact h3 m hm
            omega
          subst em
          exact now R h rfl
      · exact h.elim
    · exact h.elim⟩
theorem cs_min (hc : X.calm = true) : CallS X E (.builtin "min") cMin:=⟨fun H ρ st ps xs Q R rp h=>by
  unfold cMin at h
  split at h
  · obtain ⟨v,u,rfl,r1,r2⟩:=repL_two rp
    cases r1; cases r2
    exact WC.of (call_min2 hc) ⟨_,_,rfl,now R h rfl⟩
  · unfold cInts at h
    split at h
    · obtain ⟨v,rfl,r⟩:=repL_one rp
      split at h
      · rename_i ns e
        cases ns with
        | nil=>exact h.elim
        | cons n ns=>
          obtain ⟨t,a,rfl,hq⟩:=ints_at' (K:=X.K) R r e
          refine WC.of (call_minL t hc) ⟨a,_,rfl,hq,by simp,fun m hm hk=>?_⟩
          have em : m = ns.foldl (fun a b=>if b < a then b else a) n:=by
            obtain ⟨h1,h2,h3⟩:=foldl_min ns n
            have g1 : m <= ns.foldl (fun a b=>if b < a then b else a) n:=by
              rcases h1 with e | e
              · rw [e]; exact hk _ List.mem_cons_self
              · exact hk _ (List.mem_cons_of_mem _ e)
            have g2 : ns.foldl (fun a b=>if b < a then b else a) n <= m:=by
              rcases List.mem_cons.mp hm with rfl | hm
              · exact h2
              · exact h3 m hm
            omega
          subst em
          exact now R h rfl
      · exact h.elim
    · exact h.elim⟩
def cList : CF:=fun st ps=>match ps with
  | [p]=>match seqOf st p with
    | some xs=>.ok (.lst xs) st
    | none=>.stuck
  | _=>.stuck
def cTuple : CF:=fun st ps=>match ps with
  | [p]=>match seqOf st p with
    | some xs=>.ok (.tup xs) st
    | none=>.stuck
  | _=>.stuck
theorem cs_list : CallS X E (.type "list") cList:=⟨fun H ρ st ps xs Q R rp h=>by
  unfold cList at h
  split at h
  · obtain ⟨v,rfl,r⟩:=repL_one rp
    split at h
    · rename_i ys e
      obtain ⟨t,a,vs,rfl,hq,ra⟩:=seq_at (K:=X.K) R r e
      exact WC.of call_list_of ⟨a,vs,rfl,sqK_or hq,new_lst R h ra⟩
    · exact h.elim
  · exact h.elim⟩
theorem cs_tuple : CallS X E (.type "tuple") cTuple:=⟨fun H ρ st ps xs Q R rp h=>by
  unfold cTuple at h
  split at h
  · rename_i p
    obtain ⟨v,rfl,r⟩:=repL_one rp
    split at h
    · rename_i ys e
      cases p with
      | tup zs=>
        cases e
        obtain ⟨a,vs,rfl,ha,na,ra⟩:=r
        exact WC.of call_tuple_of ⟨a,vs,rfl,.inr ⟨SqT.of ha,now R h ⟨a,vs,rfl,ha,na,ra⟩⟩⟩
      | _=>
        obtain ⟨a,vs,rfl,ha,ra⟩:=list_at R r e
        exact WC.of call_tuple_of ⟨a,vs,rfl,.inl ⟨.inl ha,new_tup R h ra⟩⟩
    · exact h.elim
  · exact h.elim⟩
def tyN : PV -> String
  | .non => "NoneType"
  | .bl _ => "bool"
  | .int _ => "int"
  | .str _ => "str"
  | .tup _ => "tuple"
  | .lst _ => "list"
  | .fro _ => "list"
  | .ref _ => "list"
  | .dic => "dict"
def dpv (st : Store) : PV -> PV
  | .ref i=>match st[i]? with
    | some (.dic _)=>.dic
    | some (.dtp _)=>.dic
    | _=>.ref i
  | p=>p
def isI (T : String) (p : PV) : Bool:=tyN p == T || (T == "int" && tyN p == "bool")
def frzd (st : Store) : PV -> Bool
  | .ref i=>match st[i]? with
    | some (.frd _)=>true
    | some (.obj _ _)=>true
    | _=>false
  | _=>false
theorem ty_of {K : PySem.W.Frag} {H : Hp} {ρ : Tk} {st : Store} {p : PV} {v : V} (nf : frzd st p = false) (R : Rel H ρ st) (r : Rep H ρ p v) : TyOf K H v (.type (tyN (dpv st p))):=by
  cases p with
  | non=>cases r; exact .non
  | bl b=>cases r; exact .bl b
  | int i=>cases r; exact .int i
  | str x=>cases r; exact .str x
  | tup ps=>obtain ⟨a,vs,rfl,h,_⟩:=r; exact .tup h
  | lst ps=>obtain ⟨a,vs,rfl,h,_⟩:=r; exact .lst h
  | fro ps=>
    obtain ⟨a,vs,rfl,h,_⟩:=r
    rcases h with h | ⟨o,h⟩
    · exact .lst h
    · exact .frz h
  | ref i=>
    obtain ⟨a,e,rfl⟩:=r
    have hl : i < st.length:=by rw [<- R.len]; exact (List.getElem?_eq_some_iff.mp e).1
    have hs:=List.getElem?_eq_getElem hl
    have q:=R.cell i a st[i] e hs
    cases hc : st[i] with
    | lst xs=>rw [hc] at q hs; simp only [dpv,hs]; obtain ⟨vs,h,_⟩:=q; exact .lst h
    | dic xs=>rw [hc] at q hs; simp only [dpv,hs]; obtain ⟨vs,h,_⟩:=q; exact .dK h
    | dtp xs=>rw [hc] at q hs; simp only [dpv,hs]; obtain ⟨vs,h,_⟩:=q; exact .dT h
    | frd xs=>rw [hc] at hs; simp only [frzd,hs] at nf; cases nf
    | obj C xs=>rw [hc] at hs; simp only [frzd,hs] at nf; cases nf
  | dic=>obtain ⟨a,rfl,h,_⟩:=r; exact .dK h
def kitTypes : List String:=["int", "bool", "str", "tuple", "list", "dict"]
theorem kit_ok (K : PySem.W.Frag) {T : String} (hT : T ∈ kitTypes) (p : PV) : PySem.W.kitOne K (.type (tyN p)) (.type T) = some (isI T p):=by
  have hT : T = "int" \/ T = "bool" \/ T = "str" \/ T = "tuple" \/ T = "list" \/ T = "dict" := by simpa [kitTypes] using hT
  rcases hT with rfl | rfl | rfl | rfl | rfl | rfl <;> cases p <;> first | rfl | kernel_rfl
def mIsI (T : String) (m : ME) : ME:=fun Γ st=>(m Γ st).bind fun p st1=>if frzd st1 p = true then .stuck else .ok (.bl (isI T (dpv st1 p))) st1
theorem se_isi {T : String} {tx : Str} {a : Expr} {ma : ME} {p tp : Pos} (hT : T ∈ kitTypes) (ha : SimE X E a ma) (hg : Gl X "isinstance") (hm : X.mg "isinstance" = none) (hgT : Gl X tx) (hmT : X.mg tx = none) (hvT : bootBuiltins tx = some (.type T))
    (hn : tx ≠ "__name__" := by decide) (hd : (tx == ("__debug__" : Str)) = false:=by decide)
    (he : starEach [a,.Name tx tp] X.env = (false,eval a X.env) :: starEach [.Name tx tp] X.env:=by rfl) (he2 : starEach [.Name tx tp] X.env = (false,eval (.Name tx tp) X.env) :: starEach [] X.env:=by rfl) (hpl : (backTo pos (starEach [.Name tx tp] X.env)).any (·.1) = false:=by rfl) :
    SimE X E (.Call (.Name "isinstance" p) [a,.Name tx tp] [] pos) (mIsI T ma):=
  ⟨fun Γ σ H ρ st Q R G h=>WE.of (pe_callB call_isinst hg hm boot_isinstance (pa_cons pe_w (pa_cons (pe_bltn hgT hmT hvT (v:=.ty T) rfl hn hd) pa_nil he2) he) (by decide) (by decide) he hpl)
    (ha.use R G h.bind fun q st1 H1 ρ1 v x1 R1 G1 r1 h1=>by
      by_cases nf : frzd st1 q = true
      · rw [if_pos nf] at h1; exact h1.elim
      · rw [if_neg nf] at h1
        exact ⟨v,.ty T,.type T,_,_,rfl,rfl,ty_of (by simpa using nf) R1 r1,kit_ok X.K hT (dpv st1 q),now R1 h1 rfl⟩)⟩
end
end Sm
namespace Sm
open PySem PySem.Spec L2
abbrev GA:=PV -> Gam -> Option Gam
abbrev GAs:=List PV -> Gam -> Option Gam
structure SimG (X : Cx) (tg : Expr) (ga : GA) : Prop where
  run : ∀ (Γ Γ' : Gam) (σ : St) (H : Hp) (ρ : Tk) (p : PV) (v : V) (Q : St -> Hp -> Prop),EnvR H ρ Γ σ -> Rep H ρ p v -> ga p Γ = some Γ' -> (∀ σ',EnvR H ρ Γ' σ' -> Q σ' H) -> ∃ t,PG X tg t /\ t v σ H Q
structure SimGs (X : Cx) (tgs : List Expr) (n : Nat) (ga : GAs) : Prop where
  run : ∀ (Γ Γ' : Gam) (σ : St) (H : Hp) (ρ : Tk) (ps : List PV) (vs : List V) (Q : St -> Hp -> Prop),EnvR H ρ Γ σ -> RepL H ρ ps vs -> ga ps Γ = some Γ' -> (∀ σ',EnvR H ρ Γ' σ' -> Q σ' H) -> ∃ t,PGs X tgs t /\ t vs σ H Q
  len : ∀ ps Γ Γ',ga ps Γ = some Γ' -> ps.length = n
def gaName (i : Nat) : GA:=fun p Γ=>some (Γ.set i (some p))
def gaNil : GAs:=fun ps Γ=>match ps with
  | []=>some Γ
  | _=>none
def gaCons (g : GA) (gs : GAs) : GAs:=fun ps Γ=>match ps with
  | p :: r=>(g p Γ).bind (gs r)
  | []=>none
def gaTup (gs : GAs) : GA:=fun p Γ=>match p with
  | .tup ps=>gs ps Γ
  | _=>none
section
variable {X : Cx} {pos : Pos}
theorem sg_name {i : Nat} {x : Str} (hN : X.N.Nodup) (hi : X.N[i]? = some x:=by rfl) (hx : Loc X.env.scope x:=by first | exact Or.inl rfl | exact Or.inr rfl) (hf : X.fn x = true \/ X.env.scope.names.lookup x = some .local:=by first | exact .inl rfl | exact .inr rfl) : SimG X (.Name x pos) (gaName i):=
  ⟨fun Γ Γ' σ H ρ p v Q G r e k=>⟨_,pg_name hN hi hx hf,by cases e; exact k _ (G.set r i)⟩⟩
theorem sgs_nil : SimGs X [] 0 gaNil:=⟨fun Γ Γ' σ H ρ ps vs Q G r e k=>⟨_,pgs_nil,by
  cases ps with
  | nil=>cases e; cases r; exact ⟨rfl,k σ G⟩
  | cons _ _=>cases e⟩,fun ps Γ Γ' e=>by
  cases ps with
  | nil=>rfl
  | cons _ _=>cases e⟩
def WGx (X : Cx) (tg : Expr) : TG:=fun v σ H Q=>∃ t,PG X tg t /\ t v σ H Q
theorem pg_x {tg : Expr} : PG X tg (WGx X tg):=fun pins s σ H v u Q I r ⟨t,h,q⟩=>h pins s σ H v u Q I r q
def WGsx (X : Cx) (tgs : List Expr) : TGs:=fun v σ H Q=>∃ t,PGs X tgs t /\ t v σ H Q
theorem pgs_x {tgs : List Expr} : PGs X tgs (WGsx X tgs):=fun pins s σ H v u Q I r ⟨t,h,q⟩=>h pins s σ H v u Q I r q
theorem sgs_cons {e : Expr} {es : List Expr} {g : GA} {gs : GAs} {n : Nat} (h1 : SimG X e g) (h2 : SimGs X es n gs) (hs : (assignEach (e :: es) X.env).map (·.2) = assign e X.env :: (assignEach es X.env).map (·.2):=by rfl) : SimGs X (e :: es) (n + 1) (gaCons g gs):=
  ⟨fun Γ Γ' σ H ρ ps vs Q G r eq k=>⟨_,pgs_cons pg_x pgs_x hs,by
    cases ps with
    | nil=>cases eq
    | cons p ps=>
      obtain ⟨v,t,rfl,r1,r2⟩:=r
      have eq : (g p Γ).bind (gs ps) = some Γ':=eq
      cases e1 : g p Γ with
      | none=>rw [e1] at eq; cases eq
      | some Γ1=>
        rw [e1] at eq
        exact ⟨v,t,rfl,h1.run Γ Γ1 σ H ρ p v _ G r1 e1 fun σ1 G1=>h2.run Γ1 Γ' σ1 H ρ ps t _ G1 r2 eq k⟩⟩,fun ps Γ Γ' e=>by
    cases ps with
    | nil=>cases e
    | cons p ps=>
      have e : (g p Γ).bind (gs ps) = some Γ':=e
      cases e1 : g p Γ with
      | none=>rw [e1] at e; cases e
      | some Γ1=>rw [e1] at e; rw [List.length_cons,h2.len ps Γ1 Γ' e]⟩
theorem sg_tup {es : List Expr} {k n : Nat} {gs : GAs} (hc : X.calm = true) (h : SimGs X es n gs) (hn : (assignEach es X.env).length = n:=by rfl) (hst : (assignEach es X.env).findIdx? (·.1) = none:=by rfl) : SimG X (.Tuple es k pos) (gaTup gs):=
  ⟨fun Γ Γ' σ H ρ p v Q G r e q=>⟨_,pg_tup hc pgs_x hn hst,by
    cases p with
    | tup ps=>
      obtain ⟨a,vs,rfl,ha,na,ra⟩:=r
      exact ⟨a,vs,rfl,SqT.of ha,by rw [<- ra.length]; exact h.len ps Γ Γ' e,h.run Γ Γ' σ H ρ ps vs Q G ra e q⟩
    | _=>cases e⟩⟩
end
abbrev Wt:=List (Nat × Cell)
def wOk (w : Wt) (st : Store) : Prop:=∀ x ∈ w,st[x.1]? = some x.2
theorem wOk_nil (st : Store) : wOk [] st:=fun x h=>by cases h
structure Src (J : It) (items : List PV) (w : Wt) (H : Hp) (ρ : Tk) : Prop where
  stop : ∀ H2 ρ2 st2,Ext H ρ H2 ρ2 -> Rel H2 ρ2 st2 -> wOk w st2 -> J.stop items.length H2
  go : ∀ H2 ρ2 st2,Ext H ρ H2 ρ2 -> Rel H2 ρ2 st2 -> wOk w st2 -> ∀ i,i < items.length -> J.go i H2
  yld : ∀ H2 ρ2 st2,Ext H ρ H2 ρ2 -> Rel H2 ρ2 st2 -> wOk w st2 -> ∀ i p,items[i]? = some p -> ∀ x H3,J.yld i H2 x H3 -> Same H2 H3 /\ Rep H3 ρ2 p x
abbrev MI:=Gam -> Store -> Res (List PV × Wt)
structure SimI (X : Cx) (E : XK) (tg iter : Expr) (mi : MI) : Prop where
  run : ∀ (Γ : Gam) (σ : St) (H : Hp) (ρ : Tk) (st : Store) (P : List PV × Wt -> Store -> Hp -> Tk -> Prop) (R' : It -> Hp -> Prop),Rel H ρ st -> EnvR H ρ Γ σ -> Acc X.mg E H ρ P (mi Γ st) ->
    (∀ iw st1 H1 ρ1 J,mi Γ st = .ok iw st1 -> Ext H ρ H1 ρ1 -> Rel H1 ρ1 st1 -> EnvR H1 ρ1 Γ σ -> wOk iw.2 st1 -> iw.1.length <= sizeLine -> Src J iw.1 iw.2 H1 ρ1 -> P iw st1 H1 ρ1 -> R' J H1) -> WI X tg iter σ H R'
def srcOf (st : Store) : PV -> Option (List PV × Wt)
  | .tup xs=>some (xs,[])
  | .lst xs=>some (xs,[])
  | .fro xs=>some (xs,[])
  | .ref i=>match st[i]? with
    | some (.lst xs)=>some (xs,[(i,.lst xs)])
    | _=>none
  | _=>none
theorem src_at {K : PySem.W.Frag} {H : Hp} {ρ : Tk} {st : Store} {p : PV} {v : V} {xs : List PV} {w : Wt} (R : Rel H ρ st) (r : Rep H ρ p v) (e : srcOf st p = some (xs,w)) :
    wOk w st /\ ∃ (t : Bool) (a : Addr),v = .ref a /\ (t = true -> ∃ ys,p = .tup ys) /\ (t = false -> ∀ ys,p ≠ .tup ys) /\ ∀ H2 ρ2 st2,Ext H ρ H2 ρ2 -> Rel H2 ρ2 st2 -> wOk w st2 -> ∃ vs,SqK K t H2 a vs /\ RepL H2 ρ2 xs vs:=by
  cases p with
  | tup ys=>
    obtain ⟨a,vs,rfl,ha,na,ra⟩:=r
    cases e
    exact ⟨wOk_nil _,true,a,rfl,fun _=>⟨_,rfl⟩,(fun z=>by cases z),fun H2 ρ2 st2 x R2 _=>⟨vs,show SqT K H2 a vs from SqT.of (x.kp ha na),ra.ext x⟩⟩
  | lst ys=>
    obtain ⟨a,vs,rfl,ha,na,ra⟩:=r
    cases e
    exact ⟨wOk_nil _,false,a,rfl,(fun z=>by cases z),(fun _ _ z=>by cases z),fun H2 ρ2 st2 x R2 _=>⟨vs,show SqL K H2 a vs from SqL.of (x.kp ha na),ra.ext x⟩⟩
  | fro ys=>
    obtain ⟨a,vs,rfl,ha,na,ra⟩:=r
    cases e
    refine ⟨wOk_nil _,false,a,rfl,(fun z=>by cases z),(fun _ _ z=>by cases z),fun H2 ρ2 st2 x R2 _=>⟨vs,show SqL K H2 a vs from ?_,ra.ext x⟩⟩
    rcases ha with ha | ⟨o,ha⟩
    · exact .inl (.inl (x.kp ha na))
    · exact .inl (.inr ⟨o,x.kp ha na⟩)
  | ref i=>
    obtain ⟨a,ea,rfl⟩:=r
    simp only [srcOf] at e
    split at e
    · rename_i ys hs
      cases e
      refine ⟨fun x hx=>?_,false,a,rfl,(fun z=>by cases z),(fun _ _ z=>by cases z),fun H2 ρ2 st2 x R2 ok=>?_⟩
      · have : x = (i,.lst xs):=by simpa using hx
        subst this; exact hs
      · have hs2:=ok (i,.lst xs) (by simp)
        obtain ⟨b,vs,f1,f2,f3⟩:=R2.lst hs2
        obtain ⟨t,et⟩:=x.pre
        rw [<- et,List.getElem?_append_left (List.getElem?_eq_some_iff.mp ea).1,ea] at f1
        cases f1
        exact ⟨vs,show SqL K H2 a vs from SqL.of f2,f3⟩
    · cases e
  | _=>cases e
section
variable {X : Cx} {E : XK} {pos : Pos} {tg : Expr} {e : Expr} {m : ME}
def mSeq (m : ME) : MI:=fun Γ st=>(m Γ st).bind fun p st1=>match srcOf st1 p with
  | some (xs,w)=>if xs.length <= lim then .ok (xs,w) st1 else .stuck
  | none=>.stuck
theorem RepL.i {H : Hp} {ρ : Tk} {ps : List PV} {vs : List V} {i : Nat} {p : PV} {x : V} (r : RepL H ρ ps vs) (h : ps[i]? = some p) (h' : vs[i]? = some x) : Rep H ρ p x:=by
  obtain ⟨v,e,q⟩:=r.get h
  rw [h'] at e; cases e
  exact q
theorem src_seq {K : PySem.W.Frag} {H : Hp} {ρ : Tk} {t : Bool} {a : Addr} {xs : List PV} {w : Wt} (h : ∀ H2 ρ2 st2,Ext H ρ H2 ρ2 -> Rel H2 ρ2 st2 -> wOk w st2 -> ∃ vs,SqK K t H2 a vs /\ RepL H2 ρ2 xs vs) : Src (if t = true then Itt K a else Itl K a) xs w H ρ:=by
  cases t with
  | true=>
    rw [if_pos rfl]
    refine ⟨fun H2 ρ2 st2 x R ok=>?_,fun H2 ρ2 st2 x R ok i hi=>?_,fun H2 ρ2 st2 x R ok i p hp y H3 hy=>?_⟩
    · obtain ⟨vs,s,r⟩:=h H2 ρ2 st2 x R ok
      exact ⟨vs,s,by rw [r.length]; exact Nat.le_refl _⟩
    · obtain ⟨vs,s,r⟩:=h H2 ρ2 st2 x R ok
      have hi' : i < vs.length:=by rw [<- r.length]; exact hi
      exact ⟨vs,vs[i],s,List.getElem?_eq_getElem hi'⟩
    · obtain ⟨vs,s,r⟩:=h H2 ρ2 st2 x R ok
      obtain ⟨rfl,hv⟩:=hy
      exact ⟨Same.refl _,r.i hp (hv vs s)⟩
  | false=>
    rw [if_neg Bool.false_ne_true]
    refine ⟨fun H2 ρ2 st2 x R ok=>?_,fun H2 ρ2 st2 x R ok i hi=>?_,fun H2 ρ2 st2 x R ok i p hp y H3 hy=>?_⟩
    · obtain ⟨vs,s,r⟩:=h H2 ρ2 st2 x R ok
      exact ⟨vs,s,by rw [r.length]; exact Nat.le_refl _⟩
    · obtain ⟨vs,s,r⟩:=h H2 ρ2 st2 x R ok
      have hi' : i < vs.length:=by rw [<- r.length]; exact hi
      exact ⟨vs,vs[i],s,List.getElem?_eq_getElem hi'⟩
    · obtain ⟨vs,s,r⟩:=h H2 ρ2 st2 x R ok
      obtain ⟨rfl,hv⟩:=hy
      exact ⟨Same.refl _,r.i hp (hv vs s)⟩
theorem mSeq_in {mg : Str -> Option Value} {H : Hp} {ρ : Tk} {st : Store} {p : PV} {P : List PV × Wt -> Store -> Hp -> Tk -> Prop} (R : Rel H ρ st) (h : Acc mg E H ρ P (match srcOf st p with | some (xs,w)=>if xs.length <= lim then .ok (xs,w) st else .stuck | none=>.stuck)) :
    ∃ xs w,srcOf st p = some (xs,w) /\ xs.length <= lim /\ P (xs,w) st H ρ:=by
  split at h
  · rename_i xs w e
    split at h
    · rename_i hl
      exact ⟨xs,w,e,hl,h H ρ (Ext.refl _ _) R⟩
    · exact h.elim
  · exact h.elim
theorem si_seq (ha : SimE X E e m) : SimI X E tg e (mSeq m):=⟨fun Γ σ H ρ st P R' R G h k=>by
  have hb : Acc X.mg E H ρ _ (m Γ st):=Acc.bind h
  by_cases ht : ∃ ys st1,m Γ st = .ok (.tup ys) st1
  · obtain ⟨ys,st0,e0⟩:=ht
    refine WI.of (pi_tup pe_w) (ha.use' R G hb fun p st1 H1 ρ1 v eq x1 R1 G1 r1 h1=>?_)
    obtain ⟨xs,w,e,hl,hP⟩:=mSeq_in R1 h1
    obtain ⟨ok,t,a,rfl,t1,t2,sq⟩:=src_at (K:=X.K) R1 r1 e
    have ep : p = .tup ys:=by rw [eq] at e0; injection e0
    cases t with
    | false=>exact absurd ep (t2 rfl ys)
    | true=>
      obtain ⟨vs,s,_⟩:=sq H1 ρ1 st1 (Ext.refl _ _) R1 ok
      exact ⟨a,rfl,⟨vs,s⟩,k (xs,w) st1 H1 ρ1 _ (by simp only [mSeq,eq,Res.bind,e,if_pos hl]) x1 R1 G1 ok (le_lim hl) (src_seq sq) hP⟩
  · refine WI.of (pi_list pe_w) (ha.use' R G hb fun p st1 H1 ρ1 v eq x1 R1 G1 r1 h1=>?_)
    obtain ⟨xs,w,e,hl,hP⟩:=mSeq_in R1 h1
    obtain ⟨ok,t,a,rfl,t1,t2,sq⟩:=src_at (K:=X.K) R1 r1 e
    cases t with
    | true=>
      obtain ⟨ys,rfl⟩:=t1 rfl
      exact absurd ⟨ys,st1,eq⟩ ht
    | false=>
      obtain ⟨vs,s,_⟩:=sq H1 ρ1 st1 (Ext.refl _ _) R1 ok
      exact ⟨a,rfl,⟨vs,s⟩,k (xs,w) st1 H1 ρ1 _ (by simp only [mSeq,eq,Res.bind,e,if_pos hl]) x1 R1 G1 ok (le_lim hl) (src_seq sq) hP⟩⟩
def rangeI (lo : Int) (n : Nat) : List PV:=(List.range n).map fun (k : Nat)=>PV.int (lo + (k : Int))
theorem src_range {H : Hp} {ρ : Tk} {lo : Int} {n : Nat} : Src (Itr lo n) (rangeI lo n) [] H ρ:=by
  have hl : (rangeI lo n).length = n:=by unfold rangeI; rw [List.length_map,List.length_range]
  refine ⟨fun H2 ρ2 st2 x R ok=>?_,fun H2 ρ2 st2 x R ok i hi=>?_,fun H2 ρ2 st2 x R ok i p hp y H3 hy=>?_⟩
  · show n <= (rangeI lo n).length
    omega
  · show i < n
    omega
  · obtain ⟨rfl,rfl⟩:=hy
    have hi : i < n:=by rw [<- hl]; exact (List.getElem?_eq_some_iff.mp hp).1
    unfold rangeI at hp
    rw [List.getElem?_map,List.getElem?_range hi] at hp
    cases hp
    exact ⟨Same.refl _,rfl⟩
def mRange1 (mr : Gam -> Store -> Res (List PV)) : MI:=fun Γ st=>(mr Γ st).bind fun ps st1=>match ps with
  | [.int j]=>if -(lim : Int) <= j /\ j <= lim then .ok (rangeI 0 j.toNat,[]) st1 else .stuck
  | _=>.stuck
def mRange2 (mr : Gam -> Store -> Res (List PV)) : MI:=fun Γ st=>(mr Γ st).bind fun ps st1=>match ps with
  | [.int i,.int j]=>if -(lim : Int) <= i /\ i <= lim /\ -(lim : Int) <= j /\ j <= lim then .ok (rangeI i (j - i).toNat,[]) st1 else .stuck
  | _=>.stuck
variable {a b : Expr} {mr : Gam -> Store -> Res (List PV)} {p : Pos}
theorem rangeI_len (lo : Int) (n : Nat) : (rangeI lo n).length = n:=by unfold rangeI; rw [List.length_map,List.length_range]
theorem si_range1 (hg : Gl X "range") (hm : X.mg "range" = none) (ha : SimA X E [a] mr) (hs : starEach [a] X.env = [(false,eval a X.env)]:=by rfl) : SimI X E tg (.Call (.Name "range" p) [a] [] pos) (mRange1 mr):=⟨fun Γ σ H ρ st P R' R G h k=>by
  refine WI.of (pi_range1 hg hm pa_w hs) (ha.use' R G h.bind fun ps st1 H1 ρ1 vs eq x1 R1 G1 r1 h1=>?_)
  split at h1
  · rename_i j
    split at h1
    · rename_i hj
      obtain ⟨v,rfl,rv⟩:=repL_one r1
      cases rv
      have hl : (lim : Int) = 1000000:=rfl
      refine ⟨j,rfl,by omega,by omega,k (rangeI 0 j.toNat,[]) st1 H1 ρ1 _ (by simp only [mRange1,eq,Res.bind,if_pos hj]) x1 R1 G1 (wOk_nil _) ?_ src_range (h1 H1 ρ1 (Ext.refl _ _) R1)⟩
      show (rangeI 0 j.toNat).length <= sizeLine
      rw [rangeI_len]
      exact le_lim (by omega)
    · exact h1.elim
  · exact h1.elim⟩
theorem si_range2 (hg : Gl X "range") (hm : X.mg "range" = none) (ha : SimA X E [a,b] mr) (hs : starEach [a,b] X.env = [(false,eval a X.env),(false,eval b X.env)]:=by rfl) (hs2 : starEach [b] X.env = [(false,eval b X.env)]:=by rfl) : SimI X E tg (.Call (.Name "range" p) [a,b] [] pos) (mRange2 mr):=⟨fun Γ σ H ρ st P R' R G h k=>by
  refine WI.of (pi_range2 hg hm pa_w hs hs2) (ha.use' R G h.bind fun ps st1 H1 ρ1 vs eq x1 R1 G1 r1 h1=>?_)
  split at h1
  · rename_i i j
    split at h1
    · rename_i hj
      obtain ⟨v,u,rfl,rv,ru⟩:=repL_two r1
      cases rv; cases ru
      have hl : (lim : Int) = 1000000:=rfl
      refine ⟨i,j,rfl,⟨by omega,by omega,by omega,by omega⟩,k (rangeI i (j - i).toNat,[]) st1 H1 ρ1 _ (by simp only [mRange2,eq,Res.bind,if_pos hj]) x1 R1 G1 (wOk_nil _) ?_ src_range (h1 H1 ρ1 (Ext.refl _ _) R1)⟩
      show (rangeI i (j - i).toNat).length <= sizeLine
      rw [rangeI_len]
      exact Nat.le_trans (show (j - i).toNat <= 2000000 by omega) (by decide)
    · exact h1.elim
  · exact h1.elim⟩
def zipT : List PV -> List PV -> List PV
  | x :: xs,y :: ys=>.tup [x,y] :: zipT xs ys
  | _,_=>[]
theorem zipT_eq (xs ys : List PV) : zipT xs ys = (xs.zip ys).map fun z=>.tup [z.1,z.2]:=by
  induction xs generalizing ys with
  | nil=>rfl
  | cons x xs ih=>
    cases ys with
    | nil=>rfl
    | cons y ys=>rw [zipT,ih]; rfl
theorem zipT_len (xs ys : List PV) : (zipT xs ys).length = min xs.length ys.length:=by rw [zipT_eq,List.length_map,List.length_zip]
theorem zipT_get {xs ys : List PV} {i : Nat} {p : PV} (h : (zipT xs ys)[i]? = some p) : ∃ x y,p = .tup [x,y] /\ xs[i]? = some x /\ ys[i]? = some y:=by
  rw [zipT_eq,List.getElem?_map] at h
  cases e : (xs.zip ys)[i]? with
  | none=>rw [e] at h; cases h
  | some z=>
    rw [e] at h; cases h
    rw [List.getElem?_zip_eq_some] at e
    exact ⟨z.1,z.2,rfl,e.1,e.2⟩
def mZip (mr : Gam -> Store -> Res (List PV)) : MI:=fun Γ st=>(mr Γ st).bind fun ps st1=>match ps with
  | [p,q]=>match srcOf st1 p,srcOf st1 q with
    | some (xs,w),some (ys,w')=>if xs.length <= lim then .ok (zipT xs ys,w ++ w') st1 else .stuck
    | _,_=>.stuck
  | _=>.stuck
theorem wOk_app {w w' : Wt} {st : Store} (h : wOk (w ++ w') st) : wOk w st /\ wOk w' st:=⟨fun x hx=>h x (List.mem_append_left _ hx),fun x hx=>h x (List.mem_append_right _ hx)⟩
theorem src_zip {K : PySem.W.Frag} {H : Hp} {ρ : Tk} {t1 t2 : Bool} {a b : Addr} {xs ys : List PV} {w w' : Wt} (h : ∀ H2 ρ2 st2,Ext H ρ H2 ρ2 -> Rel H2 ρ2 st2 -> wOk w st2 -> ∃ vs,SqK K t1 H2 a vs /\ RepL H2 ρ2 xs vs)
    (h' : ∀ H2 ρ2 st2,Ext H ρ H2 ρ2 -> Rel H2 ρ2 st2 -> wOk w' st2 -> ∃ vs,SqK K t2 H2 b vs /\ RepL H2 ρ2 ys vs) : Src (Itz K t1 t2 a b) (zipT xs ys) (w ++ w') H ρ:=by
  refine ⟨fun H2 ρ2 st2 x R ok=>?_,fun H2 ρ2 st2 x R ok i hi=>?_,fun H2 ρ2 st2 x R ok i p hp y H3 hy=>?_⟩
  · obtain ⟨vs,s,r⟩:=h H2 ρ2 st2 x R (wOk_app ok).1
    obtain ⟨us,s',r'⟩:=h' H2 ρ2 st2 x R (wOk_app ok).2
    refine ⟨vs,us,s,s',?_⟩
    rw [zipT_len,<- r.length,<- r'.length]
    omega
  · obtain ⟨vs,s,r⟩:=h H2 ρ2 st2 x R (wOk_app ok).1
    obtain ⟨us,s',r'⟩:=h' H2 ρ2 st2 x R (wOk_app ok).2
    rw [zipT_len,r.length,r'.length] at hi
    have h1 : i < vs.length:=by omega
    have h2 : i < us.length:=by omega
    exact ⟨vs,us,vs[i],us[i],s,s',List.getElem?_eq_getElem h1,List.getElem?_eq_getElem h2⟩
  · obtain ⟨vs,s,r⟩:=h H2 ρ2 st2 x R (wOk_app ok).1
    obtain ⟨us,s',r'⟩:=h' H2 ρ2 st2 x R (wOk_app ok).2
    obtain ⟨q,u,v,hn,rfl,rfl,hv⟩:=hy
    obtain ⟨e1,e2⟩:=hv vs us s s'
    obtain ⟨xp,yp,rfl,p1,p2⟩:=zipT_get hp
    have sm : Same H2 (upd H2 q (.tup [u,v])):=same_new hn
    exact ⟨sm,q,[u,v],rfl,upd_same,R.fresh hn,RepL.cons ((r.i p1 e1).ext (Ext.same sm)) (RepL.cons ((r'.i p2 e2).ext (Ext.same sm)) RepL.nil)⟩
theorem si_zip {elts : List Expr} {kt : Nat} {tp : Pos} (hg : Gl X "zip") (hm : X.mg "zip" = none) (ha : SimA X E [a,b] mr) (hs : starEach [a,b] X.env = [(false,eval a X.env),(false,eval b X.env)]:=by rfl) (hs2 : starEach [b] X.env = [(false,eval b X.env)]:=by rfl) :
    SimI X E (.Tuple elts kt tp) (.Call (.Name "zip" p) [a,b] [] pos) (mZip mr):=⟨fun Γ σ H ρ st P R' R G h k=>by
  have hb : Acc X.mg E H ρ _ (mr Γ st):=Acc.bind h
  have main : ∀ t1 t2 : Bool,(∀ p q st1,mr Γ st = .ok [p,q] st1 -> (t1 = true <-> ∃ ys,p = .tup ys) /\ (t2 = true <-> ∃ ys,q = .tup ys)) -> WI X (.Tuple elts kt tp) (.Call (.Name "zip" p) [a,b] [] pos) σ H R':=fun t1 t2 ht=>by
    refine WI.of (pi_zip t1 t2 hg hm pa_w hs hs2) (ha.use' R G hb fun ps st1 H1 ρ1 vs eq x1 R1 G1 r1 h1=>?_)
    split at h1
    · rename_i p' q'
      split at h1
      · rename_i xs w ys w' e1 e2
        split at h1
        · rename_i hl
          obtain ⟨v,u,rfl,rv,ru⟩:=repL_two r1
          obtain ⟨ok1,b1,a1,rfl,z1,z1',sq1⟩:=src_at (K:=X.K) R1 rv e1
          obtain ⟨ok2,b2,a2,rfl,z2,z2',sq2⟩:=src_at (K:=X.K) R1 ru e2
          obtain ⟨g1,g2⟩:=ht _ _ _ eq
          have eb1 : b1 = t1:=by
            cases b1 with
            | true=>exact (g1.mpr (z1 rfl)).symm
            | false=>
              cases t1 with
              | false=>rfl
              | true=>obtain ⟨ys,e⟩:=g1.mp rfl; exact absurd e (z1' rfl ys)
          have eb2 : b2 = t2:=by
            cases b2 with
            | true=>exact (g2.mpr (z2 rfl)).symm
            | false=>
              cases t2 with
              | false=>rfl
              | true=>obtain ⟨ys,e⟩:=g2.mp rfl; exact absurd e (z2' rfl ys)
          subst eb1; subst eb2
          obtain ⟨vs1,s1,_⟩:=sq1 H1 ρ1 st1 (Ext.refl _ _) R1 ok1
          obtain ⟨vs2,s2,_⟩:=sq2 H1 ρ1 st1 (Ext.refl _ _) R1 ok2
          refine ⟨a1,a2,vs1,vs2,rfl,s1,s2,k (zipT xs ys,w ++ w') st1 H1 ρ1 _ (by simp only [mZip,eq,Res.bind,e1,e2,if_pos hl]) x1 R1 G1 (fun x hx=>?_) ?_ (src_zip sq1 sq2) (h1 H1 ρ1 (Ext.refl _ _) R1)⟩
          · rcases List.mem_append.mp hx with hx | hx
            · exact ok1 x hx
            · exact ok2 x hx
          · show (zipT xs ys).length <= sizeLine
            rw [zipT_len]
            exact le_lim (Nat.le_trans (Nat.min_le_left _ _) hl)
        · exact h1.elim
      · exact h1.elim
    · exact h1.elim
  have tt : ∀ p : PV,∃ t : Bool,t = true <-> ∃ ys,p = .tup ys:=fun p=>by
    cases p with
    | tup ys=>exact ⟨true,fun _=>⟨ys,rfl⟩,fun _=>rfl⟩
    | _=>exact ⟨false,⟨fun z=>(by cases z),fun ⟨_,z⟩=>(by cases z)⟩⟩
  by_cases hz : ∃ p q st1,mr Γ st = .ok [p,q] st1
  · obtain ⟨p0,q0,st0,e0⟩:=hz
    obtain ⟨t1,g1⟩:=tt p0
    obtain ⟨t2,g2⟩:=tt q0
    refine main t1 t2 fun p q st1 e=>?_
    rw [e0] at e; cases e
    exact ⟨g1,g2⟩
  · exact main true true fun p q st1 e=>absurd ⟨p,q,st1,e⟩ hz⟩
def enumT : Nat -> List PV -> List PV
  | _,[]=>[]
  | n,x :: xs=>.tup [.int n,x] :: enumT (n + 1) xs
theorem enumT_len : ∀ (n : Nat) (xs : List PV),(enumT n xs).length = xs.length
  | _,[]=>rfl
  | n,x :: xs=>by rw [enumT,List.length_cons,enumT_len (n + 1) xs,List.length_cons]
theorem enumT_get : ∀ {n : Nat} {xs : List PV} {i : Nat} {p : PV},(enumT n xs)[i]? = some p -> ∃ x,p = .tup [.int (n + i : Nat),x] /\ xs[i]? = some x
  | n,[],i,p,h=>by simp [enumT] at h
  | n,x :: xs,0,p,h=>by
    simp [enumT] at h
    exact ⟨x,h.symm,rfl⟩
  | n,x :: xs,i + 1,p,h=>by
    rw [enumT,List.getElem?_cons_succ] at h
    obtain ⟨y,e1,e2⟩:=enumT_get h
    exact ⟨y,by rw [e1,show n + 1 + i = n + (i + 1) by omega],by simpa using e2⟩
def mEnum (mr : Gam -> Store -> Res (List PV)) : MI:=fun Γ st=>(mr Γ st).bind fun ps st1=>match ps with
  | [p]=>match srcOf st1 p with
    | some (xs,w)=>if xs.length <= lim then .ok (enumT 0 xs,w) st1 else .stuck
    | none=>.stuck
  | _=>.stuck
theorem src_enum {K : PySem.W.Frag} {H : Hp} {ρ : Tk} {t : Bool} {a : Addr} {xs : List PV} {w : Wt} (h : ∀ H2 ρ2 st2,Ext H ρ H2 ρ2 -> Rel H2 ρ2 st2 -> wOk w st2 -> ∃ vs,SqK K t H2 a vs /\ RepL H2 ρ2 xs vs) : Src (Ite K t a) (enumT 0 xs) w H ρ:=by
  refine ⟨fun H2 ρ2 st2 x R ok=>?_,fun H2 ρ2 st2 x R ok i hi=>?_,fun H2 ρ2 st2 x R ok i p hp y H3 hy=>?_⟩
  · obtain ⟨vs,s,r⟩:=h H2 ρ2 st2 x R ok
    exact ⟨vs,s,by rw [enumT_len,r.length]; exact Nat.le_refl _⟩
  · obtain ⟨vs,s,r⟩:=h H2 ρ2 st2 x R ok
    rw [enumT_len,r.length] at hi
    exact ⟨vs,vs[i],s,List.getElem?_eq_getElem hi⟩
  · obtain ⟨vs,s,r⟩:=h H2 ρ2 st2 x R ok
    obtain ⟨q,u,hn,rfl,rfl,hv⟩:=hy
    have e1:=hv vs s
    obtain ⟨xp,rfl,p1⟩:=enumT_get hp
    have sm : Same H2 (upd H2 q (.tup [.int i,u])):=same_new hn
    exact ⟨sm,q,[.int i,u],rfl,upd_same,R.fresh hn,RepL.cons (by rw [Nat.zero_add]; rfl) (RepL.cons ((r.i p1 e1).ext (Ext.same sm)) RepL.nil)⟩
theorem si_enum {elts : List Expr} {kt : Nat} {tp : Pos} (hg : Gl X "enumerate") (hm : X.mg "enumerate" = none) (ha : SimA X E [a] mr) (hs : starEach [a] X.env = [(false,eval a X.env)]:=by rfl) :
    SimI X E (.Tuple elts kt tp) (.Call (.Name "enumerate" p) [a] [] pos) (mEnum mr):=⟨fun Γ σ H ρ st P R' R G h k=>by
  have hb : Acc X.mg E H ρ _ (mr Γ st):=Acc.bind h
  have main : ∀ t1 : Bool,(∀ p st1,mr Γ st = .ok [p] st1 -> (t1 = true <-> ∃ ys,p = .tup ys)) -> WI X (.Tuple elts kt tp) (.Call (.Name "enumerate" p) [a] [] pos) σ H R':=fun t1 ht=>by
    refine WI.of (pi_enum t1 hg hm pa_w hs) (ha.use' R G hb fun ps st1 H1 ρ1 vs eq x1 R1 G1 r1 h1=>?_)
    split at h1
    · rename_i p'
      split at h1
      · rename_i xs w e1
        split at h1
        · rename_i hl
          obtain ⟨v,rfl,rv⟩:=repL_one r1
          obtain ⟨ok1,b1,a1,rfl,z1,z1',sq1⟩:=src_at (K:=X.K) R1 rv e1
          have g1:=ht _ _ eq
          have eb1 : b1 = t1:=by
            cases b1 with
            | true=>exact (g1.mpr (z1 rfl)).symm
            | false=>
              cases t1 with
              | false=>rfl
              | true=>obtain ⟨ys,e⟩:=g1.mp rfl; exact absurd e (z1' rfl ys)
          subst eb1
          obtain ⟨vs1,s1,_⟩:=sq1 H1 ρ1 st1 (Ext.refl _ _) R1 ok1
          refine ⟨a1,vs1,rfl,s1,k (enumT 0 xs,w) st1 H1 ρ1 _ (by simp only [mEnum,eq,Res.bind,e1,if_pos hl]) x1 R1 G1 ok1 ?_ (src_enum sq1) (h1 H1 ρ1 (Ext.refl _ _) R1)⟩
          show (enumT 0 xs).length <= sizeLine
          rw [enumT_len]
          exact le_lim hl
        · exact h1.elim
      · exact h1.elim
    · exact h1.elim
  have tt : ∀ p : PV,∃ t : Bool,t = true <-> ∃ ys,p = .tup ys:=fun p=>by
    cases p with
    | tup ys=>exact ⟨true,fun _=>⟨ys,rfl⟩,fun _=>rfl⟩
    | _=>exact ⟨false,⟨fun z=>(by cases z),fun ⟨_,z⟩=>(by cases z)⟩⟩
  by_cases hz : ∃ p st1,mr Γ st = .ok [p] st1
  · obtain ⟨p0,st0,e0⟩:=hz
    obtain ⟨t1,g1⟩:=tt p0
    refine main t1 fun p st1 e=>?_
    rw [e0] at e; cases e
    exact g1
  · exact main true fun p st1 e=>absurd ⟨p,st1,e⟩ hz⟩
end
end Sm
namespace Sm
open PySem PySem.Spec L2
abbrev ML:=Gam -> Store -> Res (List PV)
structure SimN (X : Cx) (E : XK) (e : Expr) (m : ML) : Prop where
  run : ∀ (Γ : Gam) (σ : St) (H : Hp) (ρ : Tk) (st : Store) (P : List PV -> Store -> Hp -> Tk -> Prop) (Q : VK),Rel H ρ st -> EnvR H ρ Γ σ -> Acc X.mg E H ρ P (m Γ st) ->
    (∀ ps st1 H1 ρ1 a vs,m Γ st = .ok ps st1 -> Ext H ρ H1 ρ1 -> Rel H1 ρ1 st1 -> a ∈ ρ1.hid -> H a = none -> H1 a = some (.lst vs) -> RepL H1 ρ1 ps vs -> Q (.ref a) H1) -> WE X e σ H Q
def mVal (m : ML) : ME:=fun Γ st=>(m Γ st).bind fun ps st1=>.ok (.lst ps) st1
def mTrk (m : ML) : ME:=fun Γ st=>(m Γ st).bind fun ps st1=>.ok (.ref st1.length) (st1 ++ [.lst ps])
section
variable {H0 H : Hp} {ρ0 ρ : Tk} {st : Store} {a : Addr} {ps : List PV} {vs : List V}
theorem out_val (R0 : Rel H0 ρ0 st) (x : Ext H0 ρ0 H ρ) {st1 : Store} (R : Rel H ρ st1) (hm : a ∈ ρ.hid) (hn : H0 a = none) (ha : H a = some (.lst vs)) (r : RepL H ρ ps vs) :
    Ext H0 ρ0 H ⟨ρ.tr,ρ0.hid⟩ /\ Rel H ⟨ρ.tr,ρ0.hid⟩ st1 /\ Rep H ⟨ρ.tr,ρ0.hid⟩ (.lst ps) (.ref a):=
  ⟨x.unhide,R.unhide x.hidM,a,vs,rfl,ha,(fun z=>by
    rcases z with z | z
    · exact R.ap a hm z
    · obtain ⟨o,e,_⟩:=R0.hd a z
      rw [hn] at e; cases e),r.unhide x.hidM⟩
mutual
theorem Rep.trk {b : Addr} {hs : List Addr} (hb : b ∈ ρ.hid) (hh : ∀ c,c ∈ hs -> c ∈ ρ.hid) : ∀ {p : PV} {v : V},Rep H ρ p v -> Rep H ⟨ρ.tr ++ [b],hs⟩ p v
  | .non,_,r=>r
  | .bl _,_,r=>r
  | .int _,_,r=>r
  | .str _,_,r=>r
  | .tup ps,v,⟨c,vs,e,s,n,r⟩=>⟨c,vs,e,s,fun z=>by
      rcases z with z | z
      · rcases List.mem_append.mp z with z | z
        · exact n (.inl z)
        · have : c = b:=by simpa using z
          subst this; exact n (.inr hb)
      · exact n (.inr (hh _ z)),RepL.trk hb hh r⟩
  | .lst ps,v,⟨c,vs,e,s,n,r⟩=>⟨c,vs,e,s,fun z=>by
      rcases z with z | z
      · rcases List.mem_append.mp z with z | z
        · exact n (.inl z)
        · have : c = b:=by simpa using z
          subst this; exact n (.inr hb)
      · exact n (.inr (hh _ z)),RepL.trk hb hh r⟩
  | .fro ps,v,⟨c,vs,e,s,n,r⟩=>⟨c,vs,e,s,fun z=>by
      rcases z with z | z
      · rcases List.mem_append.mp z with z | z
        · exact n (.inl z)
        · have : c = b:=by simpa using z
          subst this; exact n (.inr hb)
      · exact n (.inr (hh _ z)),RepL.trk hb hh r⟩
  | .ref i,v,⟨c,e,e2⟩=>⟨c,by show (ρ.tr ++ [b])[i]? = some c; rw [List.getElem?_append_left (List.getElem?_eq_some_iff.mp e).1]; exact e,e2⟩
  | .dic,v,⟨c,e,s,n⟩=>⟨c,e,s,fun z=>by
      rcases z with z | z
      · rcases List.mem_append.mp z with z | z
        · exact n (.inl z)
        · have : c = b:=by simpa using z
          subst this; exact n (.inr hb)
      · exact n (.inr (hh _ z))⟩
theorem RepL.trk {b : Addr} {hs : List Addr} (hb : b ∈ ρ.hid) (hh : ∀ c,c ∈ hs -> c ∈ ρ.hid) : ∀ {ps : List PV} {vs : List V},RepL H ρ ps vs -> RepL H ⟨ρ.tr ++ [b],hs⟩ ps vs
  | [],_,r=>r
  | p :: ps,_,⟨v,t,e,r1,r2⟩=>⟨v,t,e,Rep.trk hb hh r1,RepL.trk hb hh r2⟩
end
theorem out_trk (R0 : Rel H0 ρ0 st) (x : Ext H0 ρ0 H ρ) {st1 : Store} (R : Rel H ρ st1) (hm : a ∈ ρ.hid) (hn : H0 a = none) (ha : H a = some (.lst vs)) (r : RepL H ρ ps vs) :
    Ext H0 ρ0 H ⟨ρ.tr ++ [a],ρ0.hid⟩ /\ Rel H ⟨ρ.tr ++ [a],ρ0.hid⟩ (st1 ++ [.lst ps]) /\ Rep H ⟨ρ.tr ++ [a],ρ0.hid⟩ (.ref st1.length) (.ref a):=by
  have na0 : a ∉ ρ0.hid:=fun z=>by
    obtain ⟨o,e,_⟩:=R0.hd a z
    rw [hn] at e; cases e
  refine ⟨⟨x.pre.trans (List.prefix_append _ _),fun _ h=>h,fun _ h=>.inl h,x.keep,fun b hb=>?_,x.old,x.frz⟩,⟨?_,?_,fun b hb=>R.hd b (x.hidM b hb),fun b hb z=>?_,fun i b c h1 h2=>?_⟩,a,?_,rfl⟩
  · rcases List.mem_append.mp hb with z | z
    · exact x.new b z
    · have : b = a:=by simpa using z
      subst this; exact .inr hn
  · show (ρ.tr ++ [a]).length = _
    rw [List.length_append,List.length_append,R.len]; rfl
  · show (ρ.tr ++ [a]).Nodup
    refine List.nodup_append.mpr ⟨R.nd,by simp,fun b hb c hc e=>?_⟩
    have : c = a:=by simpa using hc
    subst this; subst e
    exact R.ap b hm hb
  · rcases List.mem_append.mp z with z | z
    · exact R.ap b (x.hidM b hb) z
    · have : b = a:=by simpa using z
      subst this; exact na0 hb
  · have h1 : (ρ.tr ++ [a])[i]? = some b:=h1
    by_cases hi : i < st1.length
    · rw [List.getElem?_append_left (by rw [R.len]; exact hi)] at h1
      rw [List.getElem?_append_left hi] at h2
      have q:=R.cell i b c h1 h2
      cases c with
      | lst qs=>
        obtain ⟨us,e1,e2⟩:=q
        exact ⟨us,e1,e2.trk hm x.hidM⟩
      | dic qs=>
        obtain ⟨us,e1,e2⟩:=q
        exact ⟨us,e1,e2.1,e2.2.trk hm x.hidM⟩
      | dtp qs=>
        obtain ⟨us,e1,e2⟩:=q
        exact ⟨us,e1,e2.1,e2.2.trk hm x.hidM⟩
      | frd qs=>
        obtain ⟨us,e1,e2⟩:=q
        exact ⟨us,e1,e2.1,e2.2.trk hm x.hidM⟩
      | obj C qs=>
        obtain ⟨us,e1,e2⟩:=q
        exact ⟨us,e1,e2.1,e2.2.trk hm x.hidM⟩
    · rw [List.getElem?_append_right (by rw [R.len]; omega)] at h1
      rw [List.getElem?_append_right (by omega)] at h2
      have e0 : i - st1.length = 0:=by
        rcases Nat.eq_zero_or_pos (i - st1.length) with z | z
        · exact z
        · rw [List.getElem?_eq_none (by simp; omega)] at h2; cases h2
      rw [R.len,e0] at h1
      rw [e0] at h2
      simp at h1 h2
      subst h1; subst h2
      exact ⟨vs,ha,r.trk hm x.hidM⟩
  · show (ρ.tr ++ [a])[st1.length]? = some a
    rw [<- R.len,List.getElem?_append_right (Nat.le_refl _),Nat.sub_self]; rfl
end
section
variable {X : Cx} {E : XK} {pos : Pos} {e : Expr} {m : ML}
theorem se_val (h : SimN X E e m) : SimE X E e (mVal m):=⟨fun Γ σ H ρ st Q R G hq=>h.run Γ σ H ρ st _ Q R G hq.bind fun ps st1 H1 ρ1 a vs eq x R1 hm hn ha r=>by
  obtain ⟨x2,R2,r2⟩:=out_val R x R1 hm hn ha r
  unfold mVal at hq
  rw [eq] at hq
  exact hq _ _ x2 R2 _ r2⟩
theorem se_trk (h : SimN X E e m) : SimE X E e (mTrk m):=⟨fun Γ σ H ρ st Q R G hq=>h.run Γ σ H ρ st _ Q R G hq.bind fun ps st1 H1 ρ1 a vs eq x R1 hm hn ha r=>by
  obtain ⟨x2,R2,r2⟩:=out_trk R x R1 hm hn ha r
  unfold mTrk at hq
  rw [eq] at hq
  exact hq _ _ x2 R2 _ r2⟩
variable {es : List Expr} {mr : Gam -> Store -> Res (List PV)} {a b : Expr} {ma mb : ME}
theorem new_at {H1 : Hp} {ρ1 : Tk} {st1 : Store} {H : Hp} {ρ : Tk} {Q : VK} {ps : List PV} {vs : List V} (x : Ext H ρ H1 ρ1) (R1 : Rel H1 ρ1 st1) (r : RepL H1 ρ1 ps vs)
    (k : ∀ H1 ρ1 a vs,Ext H ρ H1 ρ1 -> Rel H1 ρ1 st1 -> a ∈ ρ1.hid -> H a = none -> H1 a = some (.lst vs) -> RepL H1 ρ1 ps vs -> Q (.ref a) H1) : ∀ p,H1 p = none -> Q (.ref p) (upd H1 p (.lst vs)):=fun p hp=>by
  refine k _ (ρ1.hide p) p vs (x.trans (Ext.hide hp)) (R1.hide hp) List.mem_cons_self ?_ upd_same (r.hide hp)
  cases e : H p with
  | none=>rfl
  | some o=>
    obtain ⟨o',e'⟩:=x.old p o e
    rw [hp] at e'; cases e'
def mLstN (mr : Gam -> Store -> Res (List PV)) : ML:=fun Γ st=>(mr Γ st).bind fun ps st1=>if ps.length <= lim then .ok ps st1 else .stuck
theorem sn_lst (h : SimA X E es mr) : SimN X E (.List es pos) (mLstN mr):=
  ⟨fun Γ σ H ρ st P Q R G hq k=>WE.of (pe_lst pa_w) (h.use' R G hq.bind fun ps st1 H1 ρ1 vs eq x1 R1 G1 r1 h1=>by
    by_cases hl : ps.length <= lim
    · refine ⟨by rw [<- r1.length]; exact le_lim hl,new_at x1 R1 r1 fun H2 ρ2 a us=>k ps st1 H2 ρ2 a us ?_⟩
      unfold mLstN
      rw [eq]
      exact if_pos hl
    · rw [if_neg hl] at h1; exact h1.elim)⟩
def oAddN (st : Store) (p q : PV) : Res (List PV):=match lstOf st p,lstOf st q with
  | some xs,some ys=>if xs.length + ys.length <= lim then .ok (xs ++ ys) st else .stuck
  | _,_=>.stuck
def mAddN (ma mb : ME) : ML:=fun Γ st=>(ma Γ st).bind fun x st1=>(mb Γ st1).bind fun y st2=>oAddN st2 x y
theorem sn_add (ha : SimE X E a ma) (hb : SimE X E b mb) : SimN X E (.BinOp a .Add b pos) (mAddN ma mb):=
  ⟨fun Γ σ H ρ st P Q R G hq k=>WE.of (pe_op op_cat pe_w pe_w) (ha.use' R G hq.bind fun p st1 H1 ρ1 v e1 x1 R1 G1 r1 h1=>hb.use' R1 G1 h1.bind fun q st2 H2 ρ2 u e2 x2 R2 G2 r2 h2=>by
    unfold oAddN at h2
    split at h2
    · rename_i xs ys f1 f2
      split at h2
      · rename_i hl
        obtain ⟨c,vs,rfl,hc,rc⟩:=lst_at R2 (r1.ext x2) f1
        obtain ⟨d,us,rfl,hd,rd⟩:=lst_at R2 r2 f2
        refine ⟨c,d,vs,us,rfl,rfl,hc,hd,by rw [<- rc.length,<- rd.length]; exact le_lim hl,new_at (x1.trans x2) R2 (rc.append rd) fun H3 ρ3 a ws=>k (xs ++ ys) st2 H3 ρ3 a ws ?_⟩
        unfold mAddN oAddN
        rw [e1]
        show (mb Γ st1).bind _ = _
        rw [e2]
        show (match lstOf st2 p,lstOf st2 q with | some xs,some ys=>if xs.length + ys.length <= lim then Res.ok (xs ++ ys) st2 else .stuck | _,_=>.stuck) = _
        rw [f1,f2]
        exact if_pos hl
      · exact h2.elim
    · exact h2.elim)⟩
end
end Sm
namespace Sm
open PySem PySem.Spec L2
def capG (cap : List (Option Nat)) (Γ : Gam) : Gam:=cap.map fun c=>c.bind fun j=>(Γ[j]?).join
theorem EnvR.cap {H : Hp} {ρ : Tk} {Γ : Gam} {σ : St} (h : EnvR H ρ Γ σ) (cap : List (Option Nat)) : EnvR H ρ (capG cap Γ) (capOf cap σ):=by
  refine ⟨by unfold capG capOf; rw [List.length_map,List.length_map],fun i p e=>?_⟩
  unfold capG at e
  unfold capOf
  rw [List.getElem?_map] at e ⊢
  cases q : cap[i]? with
  | none=>rw [q] at e; cases e
  | some c=>
    rw [q] at e
    cases c with
    | none=>cases e
    | some j=>
      have e' : (Γ[j]?).join = some p:=Option.some.inj e
      cases r : Γ[j]? with
      | none=>rw [r] at e'; cases e'
      | some o=>
        rw [r] at e'
        have : o = some p:=e'
        subst this
        obtain ⟨v,e1,e2⟩:=h.2 j p r
        exact ⟨v,by show some ((σ[j]?).join) = some (some v); rw [e1]; rfl,e2⟩
def FreeT (cap : List (Option Nat)) (ga : GA) : Prop:=∀ Γ p Γ1,ga p (capG cap Γ) = some Γ1 -> Γ1.length = (capG cap Γ).length /\ ∀ (i : Nat) (q : PV),(capG cap Γ)[i]? = some (some q) -> Γ1[i]? = some (some q)
theorem capG_none {cap : List (Option Nat)} {i : Nat} (h : cap[i]? = some none) (Γ : Gam) : (capG cap Γ)[i]? = some none:=by
  unfold capG
  rw [List.getElem?_map,h]; rfl
theorem free_name {cap : List (Option Nat)} {i : Nat} (h : cap[i]? = some none:=by rfl) : FreeT cap (gaName i):=fun Γ p Γ1 e=>by
  cases e
  refine ⟨List.length_set ..,fun j q hj=>?_⟩
  rw [List.getElem?_set_ne fun z=>?_]
  · exact hj
  · subst z; rw [capG_none h] at hj; cases hj
def FreeL (cap : List (Option Nat)) (ga : GAs) : Prop:=∀ Γ ps Γ0 Γ1,(∀ (i : Nat) (q : PV),(capG cap Γ)[i]? = some (some q) -> Γ0[i]? = some (some q)) -> ga ps Γ0 = some Γ1 -> Γ1.length = Γ0.length /\ ∀ (i : Nat) (q : PV),(capG cap Γ)[i]? = some (some q) -> Γ1[i]? = some (some q)
theorem free_nil {cap : List (Option Nat)} : FreeL cap gaNil:=fun Γ ps Γ0 Γ1 h e=>by
  cases ps with
  | nil=>cases e; exact ⟨rfl,h⟩
  | cons _ _=>cases e
theorem free_cons {cap : List (Option Nat)} {i : Nat} {gs : GAs} (hs : FreeL cap gs) (h : cap[i]? = some none:=by rfl) : FreeL cap (gaCons (gaName i) gs):=fun Γ ps Γ0 Γ1 h0 e=>by
  cases ps with
  | nil=>cases e
  | cons p ps=>
    obtain ⟨a,b⟩:=hs Γ ps (Γ0.set i (some p)) Γ1 (fun k r hk=>by
      rw [List.getElem?_set_ne fun z=>?_]
      · exact h0 k r hk
      · subst z; rw [capG_none h] at hk; cases hk) e
    exact ⟨by rw [a,List.length_set],b⟩
theorem free_tup {cap : List (Option Nat)} {gs : GAs} (hs : FreeL cap gs) : FreeT cap (gaTup gs):=fun Γ p Γ1 e=>by
  cases p with
  | tup ps=>exact hs Γ ps _ Γ1 (fun _ _ h=>h) e
  | _=>cases e
open Classical in
def compG (ga : GA) (mt : MT) (me : ME) (w : Wt) (Γ0 : Gam) : List PV -> Store -> Res (List PV)
  | [],st=>if wOk w st then .ok [] st else .stuck
  | x :: xs,st=>if wOk w st then (match ga x Γ0 with
    | none=>.stuck
    | some Γ1=>(mt Γ1 st).bind fun b st1=>if b = true then (me Γ1 st1).bind fun y st2=>(compG ga mt me w Γ0 xs st2).bind fun ys st3=>.ok (y :: ys) st3 else compG ga mt me w Γ0 xs st1) else .stuck
def noX {α : Type} : Res α -> Res α
  | .exc _ _=>.stuck
  | r=>r
def mCompN (cap : List (Option Nat)) (ga : GA) (mi : MI) (mt : MT) (me : ME) : ML:=fun Γ st=>(mi Γ st).bind fun iw st1=>noX (compG ga mt me iw.2 (capG cap Γ) iw.1 st1)
structure SimTs (X : Cx) (ifs : List Expr) (m : MT) : Prop where
  run : ∀ (Γ : Gam) (σ : St) (H : Hp) (ρ : Tk) (st : Store) (P : Bool -> Store -> Hp -> Tk -> Prop) (Q : Bool -> Hp -> Prop),Rel H ρ st -> EnvR H ρ Γ σ -> Acc X.mg E0 H ρ P (m Γ st) ->
    (∀ b st1 H1 ρ1,m Γ st = .ok b st1 -> Ext H ρ H1 ρ1 -> Rel H1 ρ1 st1 -> EnvR H1 ρ1 Γ σ -> Q b H1) -> ∃ t,PTs X ifs t /\ t σ H Q
def mTrue : MT:=fun _ st=>.ok true st
theorem sts_nil {X : Cx} : SimTs X [] mTrue:=⟨fun Γ σ H ρ st P Q R G h k=>⟨_,pts_nil,k true st H ρ rfl (Ext.refl _ _) R G⟩⟩
theorem sts_one {X : Cx} {c : Expr} {m : MT} (hc : SimT X E0 c m) : SimTs X [c] m:=⟨fun Γ σ H ρ st P Q R G h k=>⟨_,pts_one pt_w,hc.use' R G h fun b st1 H1 ρ1 e x1 R1 G1 p=>k b st1 H1 ρ1 e x1 R1 G1⟩⟩
theorem acc_noX {α : Type} {mg : Str -> Option Value} {E E' : XK} {H : Hp} {ρ : Tk} {P : α -> Store -> Hp -> Tk -> Prop} {r : Res α} (h : Acc mg E H ρ P (noX r)) : Acc mg E' H ρ P r:=by
  cases r with
  | ok a st=>exact h
  | exc x st=>exact h.elim
  | stuck=>exact h
theorem Res.assoc {α β γ : Type} (r : Res α) (f : α -> Store -> Res β) (g : β -> Store -> Res γ) : (r.bind f).bind g = r.bind fun a st=>(f a st).bind g:=by cases r <;> rfl
theorem Acc.assoc {α β γ : Type} {mg : Str -> Option Value} {E : XK} {H : Hp} {ρ : Tk} {P : γ -> Store -> Hp -> Tk -> Prop} {r : Res α} {f : α -> Store -> Res β} {g : β -> Store -> Res γ} (h : Acc mg E H ρ P ((r.bind f).bind g)) : Acc mg E H ρ P (r.bind fun a st=>(f a st).bind g):=by
  rw [<- Res.assoc]; exact h
theorem EnvR.le {H : Hp} {ρ : Tk} {Γ Γ' : Gam} {σ : St} (h : EnvR H ρ Γ' σ) (hl : Γ.length = σ.length) (k : ∀ (i : Nat) (q : PV),Γ[i]? = some (some q) -> Γ'[i]? = some (some q)) : EnvR H ρ Γ σ:=⟨hl,fun i p e=>h.2 i p (k i p e)⟩
section
variable {X : Cx} {E : XK} {pos : Pos} {tg iter elt : Expr} {ifs : List Expr} {N N' : List Str} {sc scE : Scope} {cap : List (Option Nat)} {ga : GA} {mi : MI} {mt : MT} {me : ME}
def aE (X : Cx) (N' : List Str) (sc : Scope) (e : Expr) : TE:=fun σ H Q=>∀ cl C s0 H0 ex,WE (blkC X N' sc cl C s0 H0 ex) e σ H Q
def aG (X : Cx) (N' : List Str) (sc : Scope) (tg : Expr) : TG:=fun v σ H Q=>∀ cl C s0 H0 ex,WGx (blkC X N' sc cl C s0 H0 ex) tg v σ H Q
def aT (X : Cx) (N' : List Str) (sc : Scope) (ifs : List Expr) : TT:=fun σ H Q=>∀ cl C s0 H0 ex,∃ t,PTs (blkC X N' sc cl C s0 H0 ex) ifs t /\ t σ H Q
theorem comp_body {Γ : Gam} {σ : St} {H1 : Hp} {ρ1 : Tk} {st1 : Store} {J : It} {items : List PV} {w : Wt} {Q : VK} {P : List PV -> Store -> Hp -> Tk -> Prop} (hg : ∀ cl C s0 H0 ex,SimG (blkC X N' sc cl C s0 H0 ex) tg ga) (he : ∀ cl C s0 H0 ex,SimE (blkC X N' sc cl C s0 H0 ex) E0 elt me) (ht : ∀ cl C s0 H0 ex,SimTs (blkC X N' sc cl C s0 H0 ex) ifs mt)
    (hf : FreeT cap ga) (R1 : Rel H1 ρ1 st1) (G1 : EnvR H1 ρ1 Γ σ) (src : Src J items w H1 ρ1) (hlen : items.length <= sizeLine) (h : Acc X.mg E0 H1 ρ1 P (compG ga mt me w (capG cap Γ) items st1))
    (k : ∀ ys st2 H2 ρ2 acc vs,compG ga mt me w (capG cap Γ) items st1 = .ok ys st2 -> Ext H1 ρ1 H2 ρ2 -> Rel H2 ρ2 st2 -> acc ∈ ρ2.hid -> H1 acc = none -> H2 acc = some (.lst vs) -> RepL H2 ρ2 ys vs -> Q (.ref acc) H2) : compBodyT J cap (aG X N' sc tg) (aT X N' sc ifs) (aE X N' sc elt) σ H1 Q:=by
  intro acc hacc
  let W : Nat -> Nat -> List V -> St -> Hp -> Prop:=fun i m vs σ' H'=>m = items.length - i /\ i <= items.length /\ vs.length <= i /\ ∃ ρ' st' ys,Ext H1 ρ1 H' ρ' /\ acc ∈ ρ'.hid /\ Rel H' ρ' st' /\ EnvR H' ρ' (capG cap Γ) σ' /\ H' acc = some (.lst vs) /\ RepL H' ρ' ys vs /\
    compG ga mt me w (capG cap Γ) items st1 = (compG ga mt me w (capG cap Γ) (items.drop i) st').bind fun zs st3=>.ok (ys ++ zs) st3
  refine ⟨W,⟨_,rfl,Nat.zero_le _,Nat.le_refl _,ρ1.hide acc,st1,[],Ext.hide hacc,List.mem_cons_self,R1.hide hacc,(G1.cap cap).hide hacc,upd_same,rfl,?_⟩,?_⟩
  · rw [List.drop_zero]
    cases r : compG ga mt me w (capG cap Γ) items st1 with
    | ok zs st3=>rfl
    | exc x st3=>rfl
    | stuck=>rfl
  rintro i m vs σ' H' ⟨hm,hi,hvl,ρ',st',ys,x,hmem,R',G',ha,ry,hq⟩
  have hA : Acc X.mg E0 H1 ρ1 P ((compG ga mt me w (capG cap Γ) (items.drop i) st').bind fun zs st3=>.ok (ys ++ zs) st3):=by rw [<- hq]; exact h
  refine ⟨ha,?_⟩
  by_cases hlt : i < items.length
  · right
    have hd : items.drop i = items[i] :: items.drop (i + 1):=List.drop_eq_getElem_cons hlt
    rw [hd,compG] at hA hq
    by_cases hw : wOk w st'
    · rw [if_pos hw] at hA hq
      refine ⟨src.go H' _ st' x R' hw i hlt,by omega,fun y H2 hy=>?_⟩
      obtain ⟨sm,ry2⟩:=src.yld H' _ st' x R' hw i _ (List.getElem?_eq_getElem hlt) y H2 hy
      cases eg : ga items[i] (capG cap Γ) with
      | none=>rw [eg] at hA; exact hA.elim
      | some Γ1=>
        rw [eg] at hA hq
        have x2 : Ext H' ρ' H2 ρ':=Ext.same sm
        have R2:=R'.same sm
        intro cl C s0 H0 ex
        refine (hg cl C s0 H0 ex).run (capG cap Γ) Γ1 σ' H2 ρ' _ y _ (G'.ext x2) ry2 eg fun σ3 G3=>?_
        intro cl C s0 H0 ex
        have hA2:=Acc.later hA (x.trans x2)
        refine (ht cl C s0 H0 ex).run Γ1 σ3 H2 ρ' st' _ _ R2 G3 (Acc.bind (Acc.assoc hA2)) fun b st4 H4 ρ4 e4 x4 R4 G4=>?_
        simp only [e4,Res.bind] at hA hq
        have G0 : ∀ {H'' : Hp} {ρ'' : Tk},EnvR H'' ρ'' Γ1 σ3 -> EnvR H'' ρ'' (capG cap Γ) σ3:=fun {H'' ρ''} g=>g.le (by
          rw [<- G3.1]
          exact (hf Γ _ Γ1 eg).1.symm) (hf Γ _ Γ1 eg).2
        have x14 : Ext H1 ρ1 H4 ρ4:=x.trans (x2.trans x4)
        have hm4 : acc ∈ ρ4.hid:=x4.hidM acc hmem
        have na : acc ∉ ρ'.tr:=R'.ap acc hmem
        have ha4 : H4 acc = some (.lst vs):=x4.keep acc _ (sm acc _ ha) na
        have ry4 : RepL H4 ρ4 ys vs:=ry.ext (x2.trans x4)
        cases b with
        | false=>
          rw [if_neg Bool.false_ne_true] at hA hq ⊢
          exact ⟨_,show items.length - (i + 1) < m by omega,rfl,hlt,by omega,ρ4,st4,ys,x14,hm4,R4,G0 G4,ha4,ry4,hq⟩
        | true=>
          rw [if_pos rfl] at hA hq ⊢
          intro cl C s0 H0 ex
          have hA4:=Acc.later hA x14
          refine (he cl C s0 H0 ex).use' R4 G4 (Acc.bind (Acc.assoc hA4)) fun z st5 H5 ρ5 zv e5 x5 R5 G5 r5 h5=>?_
          simp only [e5,Res.bind] at hA hq
          have hm5 : acc ∈ ρ5.hid:=x5.hidM acc hm4
          have ha5 : H5 acc = some (.lst vs):=x5.keep acc _ ha4 (R4.ap acc hm4)
          have x15 : Ext H1 ρ1 H5 ρ5:=x14.trans x5
          refine ⟨ha5,_,show items.length - (i + 1) < m by omega,rfl,hlt,by rw [List.length_append]; simp; omega,ρ5,st5,ys ++ [z],x15.put0 hacc,hm5,R5.rehide hm5,(G0 G5).rehide hm5,upd_same,((ry4.ext x5).append (RepL.cons r5 RepL.nil)).rehide hm5,?_⟩
          refine hq.trans ?_
          cases rr : compG ga mt me w (capG cap Γ) (items.drop (i + 1)) st5 with
          | ok zs st6=>
            show Res.ok (ys ++ z :: zs) st6 = Res.ok ((ys ++ [z]) ++ zs) st6
            rw [List.append_assoc]; rfl
          | exc x6 st6=>rfl
          | stuck=>rfl
    · rw [if_neg hw] at hA; exact hA.elim
  · left
    have ei : i = items.length:=by omega
    subst ei
    rw [List.drop_length,compG] at hA hq
    by_cases hw : wOk w st'
    · rw [if_pos hw] at hA hq
      refine ⟨src.stop H' _ st' x R' hw,?_⟩
      have hq : compG ga mt me w (capG cap Γ) items st1 = .ok (ys ++ []) st':=hq
      rw [List.append_nil] at hq
      exact k ys st' H' ρ' acc vs hq x R' hmem hacc ha ry
    · rw [if_neg hw] at hA; exact hA.elim
theorem comp_run {Γ : Gam} {σ : St} {H : Hp} {ρ : Tk} {st : Store} {Q : VK} {P : List PV -> Store -> Hp -> Tk -> Prop} (hi : SimI X E tg iter mi) (hg : ∀ cl C s0 H0 ex,SimG (blkC X N' sc cl C s0 H0 ex) tg ga) (he : ∀ cl C s0 H0 ex,SimE (blkC X N' sc cl C s0 H0 ex) E0 elt me) (ht : ∀ cl C s0 H0 ex,SimTs (blkC X N' sc cl C s0 H0 ex) ifs mt)
    (hf : FreeT cap ga) (R : Rel H ρ st) (G : EnvR H ρ Γ σ) (h : Acc X.mg E H ρ P (mCompN cap ga mi mt me Γ st)) (k : ∀ ps st2 H2 ρ2 a vs,mCompN cap ga mi mt me Γ st = .ok ps st2 -> Ext H ρ H2 ρ2 -> Rel H2 ρ2 st2 -> a ∈ ρ2.hid -> H a = none -> H2 a = some (.lst vs) -> RepL H2 ρ2 ps vs -> Q (.ref a) H2) : tCompT cap (WI X tg iter) (aG X N' sc tg) (aT X N' sc ifs) (aE X N' sc elt) σ H Q:=by
  refine hi.run Γ σ H ρ st _ _ R G h.bind fun iw st1 H1 ρ1 J eq x1 R1 G1 ok hl src h1=>?_
  refine comp_body hg he ht hf R1 G1 src hl (acc_noX (E':=E0) h1) fun ys st2 H2 ρ2 acc vs eq2 x2 R2 hm hn ha ry=>?_
  refine k ys st2 H2 ρ2 acc vs ?_ (x1.trans x2) R2 hm ?_ ha ry
  · unfold mCompN
    rw [eq]
    show noX _ = _
    rw [eq2]; rfl
  cases e : H acc with
  | none=>rfl
  | some o=>
    obtain ⟨o',e'⟩:=x1.old acc o e
    rw [hn] at e'; cases e'
theorem pg_a {N' : List Str} {sc : Scope} {tg : Expr} : ∀ cl C s0 H0 ex,PG (blkC X N' sc cl C s0 H0 ex) tg (aG X N' sc tg):=fun cl C s0 H0 ex pins s σ H v u Q I r h=>pg_x pins s σ H v u Q I r (h cl C s0 H0 ex)
theorem pe_a {N' : List Str} {sc : Scope} {e : Expr} : ∀ cl C s0 H0 ex,PE (blkC X N' sc cl C s0 H0 ex) e (aE X N' sc e):=fun cl C s0 H0 ex pins s σ H Q I h=>h cl C s0 H0 ex pins s I
theorem pts_a {N' : List Str} {sc : Scope} {ifs : List Expr} : ∀ cl C s0 H0 ex,PTs (blkC X N' sc cl C s0 H0 ex) ifs (aT X N' sc ifs):=fun cl C s0 H0 ex pins s σ H Q I h=>by
  obtain ⟨t,a,b⟩:=h cl C s0 H0 ex
  exact a pins s σ H Q I b
theorem sn_comp (cap : List (Option Nat)) (N' : List Str) (hcalm : X.calm = true) (hi : SimI X E tg iter mi) (hg : ∀ cl C s0 H0 ex,SimG (blkC X N' sc cl C s0 H0 ex) tg ga) (he : ∀ cl C s0 H0 ex,SimE (blkC X N' sc cl C s0 H0 ex) E0 elt me) (ht : ∀ cl C s0 H0 ex,SimTs (blkC X N' sc cl C s0 H0 ex) ifs mt)
    (hf : FreeT cap ga) (hN : X.N = N:=by rfl) (hE : X.env.scope = scE:=by rfl) (hc : compOkC N N' sc scE cap = true:=by kernel_rfl) (hs : ∀ x,foldedSetIterable iter X.env x = pure x:=by intro _; rfl) :
    SimN X E (.ListComp elt [⟨tg,iter,ifs,0⟩] sc pos) (mCompN cap ga mi mt me):=
  ⟨fun Γ σ H ρ st P Q R G h k=>WE.of (pe_compT hcalm pi_w pg_a pe_a pts_a hN hE hc hs) (comp_run hi hg he ht hf R G h k)⟩
end
end Sm
namespace Sm
open PySem PySem.Spec L2
inductive SR where
  | nx (Γ : Gam) (st : Store) | rt (v : PV) (st : Store) | bk (Γ : Gam) (st : Store) | ct (Γ : Gam) (st : Store) | exc (x : Exc) (st : Store) | stuck
abbrev MS:=Gam -> Store -> SR
def Res.sbind {α : Type} (r : Res α) (f : α -> Store -> SR) : SR:=match r with
  | .ok a st=>f a st
  | .exc x st=>.exc x st
  | .stuck=>.stuck
def AccS (mg : Str -> Option Value) (E : XK) (D : Ends) (H : Hp) (ρ : Tk) : SR -> Prop
  | .nx Γ st=>∀ σ' H' ρ',Ext H ρ H' ρ' -> Rel H' ρ' st -> EnvR H' ρ' Γ σ' -> D.nx σ' H'
  | .bk Γ st=>∀ σ' H' ρ',Ext H ρ H' ρ' -> Rel H' ρ' st -> EnvR H' ρ' Γ σ' -> D.bk σ' H'
  | .ct Γ st=>∀ σ' H' ρ',Ext H ρ H' ρ' -> Rel H' ρ' st -> EnvR H' ρ' Γ σ' -> D.ct σ' H'
  | .rt p st=>∀ v H' ρ',Ext H ρ H' ρ' -> Rel H' ρ' st -> Rep H' ρ' p v -> D.rt v H'
  | .exc x st=>∀ C dv H' ρ',mg x.cls = some (.ref C) -> Ext H ρ H' ρ' -> Rel H' ρ' st -> XFs H' ρ' x.fs dv -> E (.ref C) dv H'
  | .stuck=>False
section
variable {α : Type} {mg : Str -> Option Value} {E : XK} {D : Ends} {H H1 : Hp} {ρ ρ1 : Tk}
theorem AccS.later {r : SR} (h : AccS mg E D H ρ r) (x : Ext H ρ H1 ρ1) : AccS mg E D H1 ρ1 r:=by
  cases r with
  | nx Γ st=>exact fun σ' H' ρ' x'=>h σ' H' ρ' (x.trans x')
  | bk Γ st=>exact fun σ' H' ρ' x'=>h σ' H' ρ' (x.trans x')
  | ct Γ st=>exact fun σ' H' ρ' x'=>h σ' H' ρ' (x.trans x')
  | rt p st=>exact fun v H' ρ' x'=>h v H' ρ' (x.trans x')
  | exc y st=>exact fun C dv H' ρ' m x'=>h C dv H' ρ' m (x.trans x')
  | stuck=>exact h
theorem AccS.bind {r : Res α} {f : α -> Store -> SR} (h : AccS mg E D H ρ (r.sbind f)) : Acc mg E H ρ (fun a st1 H1 ρ1=>AccS mg E D H1 ρ1 (f a st1)) r:=by
  cases r with
  | ok a st=>exact fun H' ρ' x' R'=>AccS.later (show AccS mg E D H ρ (f a st) from h) x'
  | exc e st=>exact h
  | stuck=>exact h
end
theorem Res.sassoc {α β : Type} (r : Res α) (f : α -> Store -> Res β) (g : β -> Store -> SR) : (r.bind f).sbind g = r.sbind fun a st=>(f a st).sbind g:=by cases r <;> rfl
theorem AccS.assoc {α β : Type} {mg : Str -> Option Value} {E : XK} {D : Ends} {H : Hp} {ρ : Tk} {r : Res α} {f : α -> Store -> Res β} {g : β -> Store -> SR} (h : AccS mg E D H ρ ((r.bind f).sbind g)) : AccS mg E D H ρ (r.sbind fun a st=>(f a st).sbind g):=by
  rw [<- Res.sassoc]; exact h
structure SimS (X : Cx) (E : XK) (s : Stmt) (m : MS) : Prop where
  run : ∀ (Γ : Gam) (σ : St) (H : Hp) (ρ : Tk) (st : Store) (D : Ends),Rel H ρ st -> EnvR H ρ Γ σ -> AccS X.mg E D H ρ (m Γ st) -> WS X s D σ H
structure SimB (X : Cx) (E : XK) (ss : List Stmt) (m : MS) : Prop where
  run : ∀ (Γ : Gam) (σ : St) (H : Hp) (ρ : Tk) (st : Store) (D : Ends),Rel H ρ st -> EnvR H ρ Γ σ -> AccS X.mg E D H ρ (m Γ st) -> WB X ss D σ H
section
variable {X : Cx} {E : XK} {pos : Pos} {e : Expr} {m : ME}
def mNext : MS:=fun Γ st=>.nx Γ st
def mSeqS (m1 m2 : MS) : MS:=fun Γ st=>match m1 Γ st with
  | .nx Γ1 st1=>m2 Γ1 st1
  | r=>r
theorem sb_nil : SimB X E [] mNext:=⟨fun Γ σ H ρ st D R G h=>WB.of pss_nil (h σ H ρ (Ext.refl _ _) R G)⟩
theorem sb_cons {s : Stmt} {rest : List Stmt} {m1 m2 : MS} (h1 : SimS X E s m1) (h2 : SimB X E rest m2) : SimB X E (s :: rest) (mSeqS m1 m2):=
  ⟨fun Γ σ H ρ st D R G h=>WB.of (pss_cons ps_w pss_w) (h1.run Γ σ H ρ st _ R G (by
    unfold mSeqS at h
    cases r : m1 Γ st with
    | nx Γ1 st1=>rw [r] at h; exact fun σ' H' ρ' x' R' G'=>h2.run Γ1 σ' H' ρ' st1 D R' G' (AccS.later h x')
    | bk Γ1 st1=>rw [r] at h; exact h
    | ct Γ1 st1=>rw [r] at h; exact h
    | rt p st1=>rw [r] at h; exact h
    | exc x st1=>rw [r] at h; exact h
    | stuck=>rw [r] at h; exact h))⟩
theorem sb_one {s : Stmt} {m1 : MS} (h1 : SimS X E s m1) : SimB X E [s] m1:=⟨fun Γ σ H ρ st D R G h=>WB.of (pss_one ps_w) (h1.run Γ σ H ρ st D R G h)⟩
def mExpr (m : ME) : MS:=fun Γ st=>(m Γ st).sbind fun _ st1=>.nx Γ st1
theorem ss_expr (he : SimE X E e m) (hs : swapsWith e none pos.line X.env = pure false:=by rfl) : SimS X E (.Expr e pos) (mExpr m):=
  ⟨fun Γ σ H ρ st D R G h=>WS.of (ps_expr pe_w hs) (he.use R G h.bind fun p st1 H1 ρ1 v x1 R1 G1 r1 h1=>h1 σ H1 ρ1 (Ext.refl _ _) R1 G1)⟩
def mRet (m : ME) : MS:=fun Γ st=>(m Γ st).sbind fun p st1=>.rt p st1
theorem ss_ret (he : SimE X E e m) : SimS X E (.Return (some e) pos) (mRet m):=
  ⟨fun Γ σ H ρ st D R G h=>WS.of (ps_ret pe_w) (he.use R G h.bind fun p st1 H1 ρ1 v x1 R1 G1 r1 h1=>h1 v H1 ρ1 (Ext.refl _ _) R1 r1)⟩
def mSet (i : Nat) (m : ME) : MS:=fun Γ st=>(m Γ st).sbind fun p st1=>.nx (Γ.set i (some p)) st1
theorem ss_set (i : Nat) {x : Str} {pos' : Pos} (hN : X.N.Nodup) (he : SimE X E e m) (hi : X.N[i]? = some x:=by rfl) (hx : Loc X.env.scope x:=by first | exact Or.inl rfl | exact Or.inr rfl) (hs : swapsWith e (some (.Name x pos')) pos.line X.env = pure false:=by rfl) (hf : X.fn x = true \/ X.env.scope.names.lookup x = some .local:=by first | exact .inl rfl | exact .inr rfl) :
    SimS X E (.Assign [.Name x pos'] e pos) (mSet i m):=
  ⟨fun Γ σ H ρ st D R G h=>WS.of (ps_set hN hi hx pe_w hs hf) (he.use R G h.bind fun p st1 H1 ρ1 v x1 R1 G1 r1 h1=>h1 _ H1 ρ1 (Ext.refl _ _) R1 (G1.set r1 i))⟩
section
variable {tg iter elt : Expr} {ifs : List Expr} {N N' : List Str} {sc scE : Scope} {ga : GA} {mi : MI} {mt : MT} {me : ME}
theorem ss_compV (cap : List (Option Nat)) (N' : List Str) (i : Nat) {x : Str} {px cpos : Pos} (hnd : X.N.Nodup) (hcalm : X.calm = true) (hi : SimI X E tg iter mi) (hg : ∀ cl C s0 H0 ex,SimG (blkC X N' sc cl C s0 H0 ex) tg ga) (he : ∀ cl C s0 H0 ex,SimE (blkC X N' sc cl C s0 H0 ex) E0 elt me) (ht : ∀ cl C s0 H0 ex,SimTs (blkC X N' sc cl C s0 H0 ex) ifs mt)
    (hf : FreeT cap ga) (hix : X.N[i]? = some x:=by rfl) (hx : Loc X.env.scope x:=by first | exact Or.inl rfl | exact Or.inr rfl) (hsw : swapsWith (.ListComp elt [⟨tg,iter,ifs,0⟩] sc cpos) (some (.Name x px)) pos.line X.env = pure true:=by rfl)
    (hN : X.N = N:=by rfl) (hE : X.env.scope = scE:=by rfl) (hc : compOkC N N' sc scE cap = true:=by kernel_rfl) (hs : ∀ x,foldedSetIterable iter X.env x = pure x:=by intro _; rfl) (hfn : X.fn x = true \/ X.env.scope.names.lookup x = some .local:=by first | exact .inl rfl | exact .inr rfl) :
    SimS X E (.Assign [.Name x px] (.ListComp elt [⟨tg,iter,ifs,0⟩] sc cpos) pos) (mSet i (mVal (mCompN cap ga mi mt me))):=
  ⟨fun Γ σ H ρ st D R G h=>WS.of (ps_compT hnd hix hx hcalm pi_w pg_a pe_a pts_a hsw hN hE hc hs hfn) (comp_run hi hg he ht hf R G (AccS.bind (by unfold mSet mVal at h; exact AccS.assoc h)) fun ps st1 H1 ρ1 a vs eq x R1 hm hn ha r=>by
    obtain ⟨x2,R2,r2⟩:=out_val R x R1 hm hn ha r
    simp only [mSet,mVal,eq,Res.bind,Res.sbind] at h
    exact h _ _ _ x2 R2 ((G.ext x2).set r2 i))⟩
end
def mAsg (ga : GA) (m : ME) : MS:=fun Γ st=>(m Γ st).sbind fun p st1=>match ga p Γ with
  | some Γ1=>.nx Γ1 st1
  | none=>.stuck
theorem ss_asg {tg : Expr} {ga : GA} (he : SimE X E e m) (hg : SimG X tg ga) (hs : swapsWithSole [tg] e pos.line X.env = pure false:=by rfl) (hw : swappedStores [tg] e X.env = pure none:=by rfl) (h1 : (assignEach [tg] X.env).map (·.2) = [assign tg X.env]:=by rfl) : SimS X E (.Assign [tg] e pos) (mAsg ga m):=
  ⟨fun Γ σ H ρ st D R G h=>WS.of (ps_asg pe_w pg_x hs hw h1) (he.use R G h.bind fun p st1 H1 ρ1 v x1 R1 G1 r1 h1=>by
    cases eg : ga p Γ with
    | none=>rw [eg] at h1; exact h1.elim
    | some Γ1=>
      rw [eg] at h1
      exact hg.run Γ Γ1 σ H1 ρ1 p v _ G1 r1 eg fun σ' G'=>h1 σ' H1 ρ1 (Ext.refl _ _) R1 G')⟩
def setIx (st : Store) (o i p : PV) : Option Store:=match o,i with
  | .ref k,.int j=>match st[k]? with
    | some (.lst xs)=>(ixN xs.length j).map fun n=>st.set k (.lst (xs.set n p))
    | _=>none
  | _,_=>none
def mSetIx (mo mi m : ME) : MS:=fun Γ st=>(m Γ st).sbind fun p st1=>(mo Γ st1).sbind fun o st2=>(mi Γ st2).sbind fun i st3=>match setIx st3 o i p with
  | some st4=>.nx Γ st4
  | none=>.stuck
theorem set_run {H : Hp} {ρ : Tk} {st st' : Store} {o i p : PV} {x y z : V} (R : Rel H ρ st) (ro : Rep H ρ o x) (ri : Rep H ρ i y) (rp : Rep H ρ p z) (e : setIx st o i p = some st') :
    ∃ a vs k j,x = .ref a /\ y = .int k /\ H a = some (.lst vs) /\ ixN vs.length k = some j /\ Ext H ρ (upd H a (.lst (vs.set j z))) ρ /\ Rel (upd H a (.lst (vs.set j z))) ρ st':=by
  unfold setIx at e
  split at e
  · rename_i k j
    split at e
    · rename_i xs hs
      cases ej : ixN xs.length j with
      | none=>rw [ej] at e; cases e
      | some n=>
        rw [ej] at e
        have e : st.set k (.lst (xs.set n p)) = st':=Option.some.inj e
        subst e
        obtain ⟨a,ea,rfl⟩:=ro
        cases ri
        obtain ⟨b,vs,f1,f2,f3⟩:=R.lst hs
        rw [ea] at f1; cases f1
        exact ⟨a,vs,j,n,rfl,rfl,f2,by rw [<- f3.length]; exact ej,Ext.put (List.mem_of_getElem? ea) f2,R.put ea f2 (f3.set rp n)⟩
    · cases e
  · cases e
theorem ss_sub {o i : Expr} {mo mi : ME} {tpos : Pos} (he : SimE X E e m) (ho : SimE X E o mo) (hi : SimE X E i mi)
    (ha : ∀ v,assign (.Subscript o i tpos) X.env v = (do
      let ov <- holding [v] (eval o X.env)
      let iv <- holding [v,ov] (eval i X.env)
      standAt tpos
      holding [v,ov,iv] (setItem ov iv v)
      release [v,ov,iv] []):=by intro _; rfl)
    (hs : swapsWithSole [.Subscript o i tpos] e pos.line X.env = pure false:=by rfl) (hw : swappedStores [.Subscript o i tpos] e X.env = pure none:=by rfl) (h1 : (assignEach [.Subscript o i tpos] X.env).map (·.2) = [assign (.Subscript o i tpos) X.env]:=by rfl) :
    SimS X E (.Assign [.Subscript o i tpos] e pos) (mSetIx mo mi m):=
  ⟨fun Γ σ H ρ st D R G h=>WS.of (ps_asg pe_w (pg_sub pe_w pe_w set_list ha) hs hw h1) (he.use R G h.bind fun p st1 H1 ρ1 z x1 R1 G1 r1 h1=>ho.use R1 G1 h1.bind fun ov st2 H2 ρ2 x x2 R2 G2 r2 h2=>hi.use R2 G2 h2.bind fun iv st3 H3 ρ3 y x3 R3 G3 r3 h3=>by
    cases es : setIx st3 ov iv p with
    | none=>rw [es] at h3; exact h3.elim
    | some st4=>
      rw [es] at h3
      obtain ⟨a,vs,k,j,rfl,rfl,f1,f2,x4,R4⟩:=set_run R3 (r2.ext x3) r3 (r1.ext (x2.trans x3)) es
      exact ⟨a,vs,k,j,rfl,rfl,f1,f2,h3 σ _ ρ3 x4 R4 (G3.ext x4)⟩)⟩
def mIfS (mt : MT) (ma mb : MS) : MS:=fun Γ st=>(mt Γ st).sbind fun b st1=>if b = true then ma Γ st1 else mb Γ st1
theorem ss_if {c : Expr} {a b : List Stmt} {mt : MT} {ma mb : MS} (hc : SimT X E c mt) (ha : SimB X E a ma) (hb : SimB X E b mb) : SimS X E (.If c a b pos) (mIfS mt ma mb):=
  ⟨fun Γ σ H ρ st D R G h=>WS.of (ps_if pt_w pss_w pss_w) (hc.use R G h.bind fun k st1 H1 ρ1 x1 R1 G1 h1=>by
    cases k with
    | true=>rw [if_pos rfl] at h1 ⊢; exact ha.run Γ σ H1 ρ1 st1 D R1 G1 h1
    | false=>rw [if_neg Bool.false_ne_true] at h1 ⊢; exact hb.run Γ σ H1 ρ1 st1 D R1 G1 h1)⟩
open Classical in
def forG (ga : GA) (body : MS) (w : Wt) : List PV -> Gam -> Store -> SR
  | [],Γ,st=>if wOk w st then .nx Γ st else .stuck
  | x :: xs,Γ,st=>if wOk w st then (match ga x Γ with
    | none=>.stuck
    | some Γ1=>match body Γ1 st with
      | .nx Γ2 st2=>forG ga body w xs Γ2 st2
      | .ct Γ2 st2=>forG ga body w xs Γ2 st2
      | .bk Γ2 st2=>.nx Γ2 st2
      | .rt v st2=>.rt v st2
      | .exc x st2=>.exc x st2
      | .stuck=>.stuck) else .stuck
def mFor (ga : GA) (mi : MI) (body : MS) : MS:=fun Γ st=>(mi Γ st).sbind fun iw st1=>forG ga body iw.2 iw.1 Γ st1
theorem ss_for {tg iter : Expr} {bd : List Stmt} {ga : GA} {mi : MI} {body : MS} (hp : PassesOwn (model X.prog X.w) X.A X.env X.xe) (hc : X.calm = true) (hi : SimI X E tg iter mi) (hg : SimG X tg ga) (hb : SimB X E bd body)
    (hs : ∀ x,foldedSetIterable iter X.env x = pure x:=by intro _; rfl) : SimS X E (.For tg iter bd [] pos) (mFor ga mi body):=
  ⟨fun Γ σ H ρ st D R G h=>WS.of (ps_for hp hc pi_w pg_x pss_w hs) (hi.run Γ σ H ρ st _ _ R G h.bind fun iw st1 H1 ρ1 J eq x1 R1 G1 ok hl src h1=>by
    let W : Nat -> Nat -> St -> Hp -> Prop:=fun i m σ' H'=>m = iw.1.length - i /\ i <= iw.1.length /\ ∃ Γ' ρ' st',Ext H1 ρ1 H' ρ' /\ Rel H' ρ' st' /\ EnvR H' ρ' Γ' σ' /\ AccS X.mg E D H' ρ' (forG ga body iw.2 (iw.1.drop i) Γ' st')
    refine ⟨W,⟨_,rfl,Nat.zero_le _,Γ,ρ1,st1,Ext.refl _ _,R1,G1,by rw [List.drop_zero]; exact h1⟩,?_⟩
    rintro i m σ' H' ⟨hm,hi',Γ',ρ',st',x,R',G',hA⟩
    by_cases hlt : i < iw.1.length
    · right
      have hd : iw.1.drop i = iw.1[i] :: iw.1.drop (i + 1):=List.drop_eq_getElem_cons hlt
      rw [hd,forG] at hA
      by_cases hw : wOk iw.2 st'
      · rw [if_pos hw] at hA
        refine ⟨src.go H' ρ' st' x R' hw i hlt,fun σ2 H2=>W (i + 1) (iw.1.length - (i + 1)) σ2 H2,fun σ2 H2 z=>⟨_,by omega,z⟩,fun y H2 hy=>?_⟩
        obtain ⟨sm,ry⟩:=src.yld H' ρ' st' x R' hw i _ (List.getElem?_eq_getElem hlt) y H2 hy
        have x2 : Ext H' ρ' H2 ρ':=Ext.same sm
        cases eg : ga iw.1[i] Γ' with
        | none=>rw [eg] at hA; exact hA.elim
        | some Γ1=>
          rw [eg] at hA
          refine hg.run Γ' Γ1 σ' H2 ρ' _ y _ (G'.ext x2) ry eg fun σ3 G3=>?_
          have hA2:=AccS.later hA x2
          simp only at hA2
          refine hb.run Γ1 σ3 H2 ρ' st' _ (R'.same sm) G3 ?_
          have again : ∀ {Γ2 : Gam} {st2 : Store},AccS X.mg E D H2 ρ' (forG ga body iw.2 (iw.1.drop (i + 1)) Γ2 st2) -> ∀ σ' H'' ρ'',Ext H2 ρ' H'' ρ'' -> Rel H'' ρ'' st2 -> EnvR H'' ρ'' Γ2 σ' -> W (i + 1) (iw.1.length - (i + 1)) σ' H'':=fun {Γ2 st2} a σ4 H4 ρ4 x4 R4 G4=>
            ⟨rfl,hlt,Γ2,ρ4,st2,x.trans (x2.trans x4),R4,G4,AccS.later a x4⟩
          cases rb : body Γ1 st' with
          | nx Γ2 st2=>rw [rb] at hA2; exact again hA2
          | ct Γ2 st2=>rw [rb] at hA2; exact again hA2
          | bk Γ2 st2=>rw [rb] at hA2; exact hA2
          | rt v st2=>rw [rb] at hA2; exact hA2
          | exc y st2=>rw [rb] at hA2; exact hA2
          | stuck=>rw [rb] at hA2; exact hA2.elim
      · rw [if_neg hw] at hA; exact hA.elim
    · left
      have ei : i = iw.1.length:=by omega
      subst ei
      rw [List.drop_length,forG] at hA
      by_cases hw : wOk iw.2 st'
      · rw [if_pos hw] at hA
        exact ⟨src.stop H' ρ' st' x R' hw,hA σ' H' ρ' (Ext.refl _ _) R' G'⟩
      · rw [if_neg hw] at hA; exact hA.elim)⟩
def mRaise (x : Str) (m : ME) : MS:=fun Γ st=>(m Γ st).sbind fun _ st1=>.exc ⟨x,none⟩ st1
theorem ss_raise {x : Str} {C : Addr} {np cpos : Pos} (hcalm : X.calm = true) (RO : RaiseD X E) (hg : Gl X x) (hm : X.mg x = some (.ref C)) (q : PySem.W.excIn X.K C bmVE "ValueError.__new__" = true) (he : SimE X E e m)
    (hdb : (x == ("__debug__" : Str)) = false:=by decide) (hst : starEach [e] X.env = [(false,eval e X.env)]:=by rfl) : SimS X E (.Raise (some (.Call (.Name x np) [e] [] cpos)) none pos) (mRaise x m):=
  ⟨fun Γ σ H ρ st D R G h=>WS.of (ps_raiseD hcalm RO hg hm q (pa_cons pe_w pa_nil (by rw [hst]; rfl)) hdb hst) (he.use R G h.bind fun p st1 H1 ρ1 v x1 R1 G1 r1 h1=>⟨Nat.le_trans (show 1 <= lim by decide) lim_le,h1 C none H1 ρ1 hm (Ext.refl _ _) R1 rfl⟩)⟩
end
end Sm
namespace Sm
open PySem PySem.Spec L2
def WM (X : Cx) (id : String) : V -> List V -> Hp -> VK -> Prop:=fun x xs H Q=>∀ (pins : List (Addr × Obj)) (s : Shared) (σ : St) (v : Value) (us : List Value),Inv X pins σ H s -> RelV x v -> Vals xs us -> wpAny (model X.prog X.w) X.A (call (.builtin id) (v :: us)) (EP X pins σ Q) X.xe s
theorem mt_w {X : Cx} {id : String} : MtR X id (WM X id):=fun pins s σ _ _ _ v us _ I r rs h=>h pins s σ v us I r rs
theorem WM.of {X : Cx} {id : String} {r : V -> List V -> Hp -> VK -> Prop} {x : V} {xs : List V} {H : Hp} {Q : VK} (h : MtR X id r) (q : r x xs H Q) : WM X id x xs H Q:=fun pins s σ v us I r1 r2=>h pins s σ H x xs v us Q I r1 r2 q
abbrev MF:=Store -> PV -> List PV -> Res PV
structure MtS (X : Cx) (E : XK) (id : String) (o : MF) : Prop where
  run : ∀ (H : Hp) (ρ : Tk) (st : Store) (p : PV) (ps : List PV) (x : V) (xs : List V) (Q : VK),Rel H ρ st -> Rep H ρ p x -> RepL H ρ ps xs -> Acc X.mg E H ρ (QV Q) (o st p ps) -> WM X id x xs H Q
section
variable {X : Cx} {E : XK} {o e : Expr} {es : List Expr} {mo : ME} {mr : Gam -> Store -> Res (List PV)} {name : Str} {apos cpos : Pos} {T id : String} {f : MF}
def mBM (f : MF) (mo : ME) (mr : Gam -> Store -> Res (List PV)) : ME:=fun Γ st=>(mo Γ st).bind fun p st1=>match listOf st1 p with
  | some _=>(mr Γ st1).bind fun ps st2=>f st2 p ps
  | none=>.stuck
theorem se_bm (pa : PlainAttrs "list") (slot : Slot "list" name id) (hty : typeOf (.builtin id) = pure (.type "method_descriptor")) (hm : MtS X E id f) (ho : SimE X E o mo) (ha : SimA X E (e :: es) mr)
    (hbase : attributeBase o name X.env (eval o X.env) = eval o X.env:=by rfl)
    (hfew : ((backTo cpos (starEach (e :: es) X.env)).all (fun x=>!x.1) && (backToKw cpos (keywordEach [] X.env)).all (fun x=>x.1.isSome)
      && decide ((e :: es).length + ([] : List Keyword).length + (if ([] : List Keyword).isEmpty then 0 else 1) < 30)) = true:=by rfl)
    (hline : (apos.endLine == cpos.line) = true:=by rfl) (hs : starEach (e :: es) X.env = (false,eval e X.env) :: starEach es X.env:=by rfl) (hplain : (backTo cpos (starEach es X.env)).any (·.1) = false:=by rfl) :
    SimE X E (.Call (.Attribute o name apos) (e :: es) [] cpos) (mBM f mo mr):=
  ⟨fun Γ σ H ρ st Q R G h=>WE.of (pe_bm pa slot hty mt_w pe_w pa_w hbase hfew hline hs hplain) (ho.use R G h.bind fun p st1 H1 ρ1 v x1 R1 G1 r1 h1=>by
    split at h1
    · rename_i ys el
      obtain ⟨a,vs,rfl,hr,_⟩:=list_at R1 r1 el
      exact ⟨.inl ⟨rfl,vs,.inl hr⟩,ha.use R1 G1 h1.bind fun ps st2 H2 ρ2 us x2 R2 G2 r2 h2=>hm.run H2 ρ2 st2 p ps _ us Q R2 (r1.ext x2) r2 h2⟩
    · exact h1.elim)⟩
def chg (st : Store) (p : PV) (g : List PV -> Option (PV × List PV)) : Res PV:=match p with
  | .ref i=>match st[i]? with
    | some (.lst xs)=>match g xs with
      | some (r,ys)=>.ok r (st.set i (.lst ys))
      | none=>.stuck
    | _=>.stuck
  | _=>.stuck
theorem chg_run {mg : Str -> Option Value} {H : Hp} {ρ : Tk} {st : Store} {p : PV} {x : V} {g : List PV -> Option (PV × List PV)} {Q : VK} (R : Rel H ρ st) (rp : Rep H ρ p x) (h : Acc mg E H ρ (QV Q) (chg st p g)) :
    ∃ a xs vs r ys,x = .ref a /\ H a = some (.lst vs) /\ RepL H ρ xs vs /\ g xs = some (r,ys) /\ ∀ us v,RepL H ρ ys us -> Rep H ρ r v -> Q v (upd H a (.lst us)):=by
  unfold chg at h
  split at h
  · rename_i i
    split at h
    · rename_i xs hs
      split at h
      · rename_i r ys hg
        obtain ⟨a,ea,rfl⟩:=rp
        obtain ⟨b,vs,f1,f2,f3⟩:=R.lst hs
        rw [ea] at f1; cases f1
        refine ⟨a,xs,vs,r,ys,rfl,f2,f3,hg,fun us v ru rv=>?_⟩
        have x:=Ext.put (o':=.lst us) (List.mem_of_getElem? ea) f2
        exact h _ ρ x (R.put ea f2 ru) v (rv.ext x)
      · exact h.elim
    · exact h.elim
  · exact h.elim
def mtAppend : MF:=fun st p ps=>match ps with
  | [y]=>chg st p fun xs=>if xs.length < lim then some (.non,xs ++ [y]) else none
  | _=>.stuck
theorem ms_append : MtS X E "list.append" mtAppend:=⟨fun H ρ st p ps x xs Q R rp rs h=>by
  unfold mtAppend at h
  split at h
  · obtain ⟨v,rfl,r⟩:=repL_one rs
    obtain ⟨a,ys,vs,r0,zs,rfl,f1,f2,f3,k⟩:=chg_run R rp h
    split at f3
    · rename_i hl
      cases f3
      exact WM.of mt_append ⟨a,vs,v,rfl,rfl,f1,by rw [<- f2.length]; exact Nat.lt_of_lt_of_le hl lim_le,k _ _ (f2.append (RepL.cons r RepL.nil)) rfl⟩
    · cases f3
  · exact h.elim⟩
def mtExtend : MF:=fun st p ps=>match ps with
  | [q]=>match lstOf st q with
    | some ys=>chg st p fun xs=>if xs.length + ys.length <= lim then some (.non,xs ++ ys) else none
    | none=>.stuck
  | _=>.stuck
theorem ms_extend : MtS X E "list.extend" mtExtend:=⟨fun H ρ st p ps x xs Q R rp rs h=>by
  unfold mtExtend at h
  split at h
  · obtain ⟨v,rfl,r⟩:=repL_one rs
    split at h
    · rename_i ws ew
      obtain ⟨b,us,rfl,hb,rb⟩:=lst_at R r ew
      obtain ⟨a,ys,vs,r0,zs,rfl,f1,f2,f3,k⟩:=chg_run R rp h
      split at f3
      · rename_i hl
        cases f3
        exact WM.of mt_extend ⟨a,b,vs,us,rfl,rfl,f1,hb,by rw [<- f2.length,<- rb.length]; exact le_lim hl,k _ _ (f2.append rb) rfl⟩
      · cases f3
    · exact h.elim
  · exact h.elim⟩
theorem se_append (ho : SimE X E o mo) (ha : SimA X E [e] mr) (hbase : attributeBase o "append" X.env (eval o X.env) = eval o X.env:=by rfl)
    (hfew : ((backTo cpos (starEach [e] X.env)).all (fun x=>!x.1) && (backToKw cpos (keywordEach [] X.env)).all (fun x=>x.1.isSome) && decide ([e].length + ([] : List Keyword).length + (if ([] : List Keyword).isEmpty then 0 else 1) < 30)) = true:=by rfl)
    (hline : (apos.endLine == cpos.line) = true:=by rfl) (hs : starEach [e] X.env = (false,eval e X.env) :: starEach [] X.env:=by rfl) : SimE X E (.Call (.Attribute o "append" apos) [e] [] cpos) (mBM mtAppend mo mr):=
  se_bm PySem.F.plainAttrs_list PySem.F.slot_list_append PySem.F.type_list_append ms_append ho ha hbase hfew hline hs
theorem se_extend (ho : SimE X E o mo) (ha : SimA X E [e] mr) (hbase : attributeBase o "extend" X.env (eval o X.env) = eval o X.env:=by rfl)
    (hfew : ((backTo cpos (starEach [e] X.env)).all (fun x=>!x.1) && (backToKw cpos (keywordEach [] X.env)).all (fun x=>x.1.isSome) && decide ([e].length + ([] : List Keyword).length + (if ([] : List Keyword).isEmpty then 0 else 1) < 30)) = true:=by rfl)
    (hline : (apos.endLine == cpos.line) = true:=by rfl) (hs : starEach [e] X.env = (false,eval e X.env) :: starEach [] X.env:=by rfl) : SimE X E (.Call (.Attribute o "extend" apos) [e] [] cpos) (mBM mtExtend mo mr):=
  se_bm PySem.F.plainAttrs_list PySem.F.slot_list_extend PySem.F.type_list_extend ms_extend ho ha hbase hfew hline hs
end
end Sm
namespace Sm
open PySem PySem.Spec L2
mutual
def fz (n : Nat) (st : Store) : Nat -> PV -> Option PV
  | 0,_=>none
  | _ + 1,.non=>some .non
  | _ + 1,.bl b=>some (.bl b)
  | _ + 1,.int i=>some (.int i)
  | _ + 1,.str x=>some (.str x)
  | k + 1,.tup xs=>(fzL n st k xs).map .tup
  | k + 1,.lst xs=>(fzL n st k xs).map .lst
  | k + 1,.fro xs=>(fzL n st k xs).map .fro
  | _ + 1,.dic=>some .dic
  | k + 1,.ref i=>if i < n then some (.ref i) else match st[i]? with
    | some (.lst xs)=>(fzL n st k xs).map .lst
    | _=>none
def fzL (n : Nat) (st : Store) : Nat -> List PV -> Option (List PV)
  | _,[]=>some []
  | k,x :: xs=>(fz n st k x).bind fun y=>(fzL n st k xs).map (y :: ·)
end
theorem fz_good {n : Nat} {st : Store} : ∀ {m k : Nat} {p : PV},good m p = true -> m < k -> fz n st k p = some p:=by
  intro m
  induction m with
  | zero=>
    intro k p g hk
    obtain ⟨k,rfl⟩ : ∃ j,k = j + 1:=⟨k - 1,by omega⟩
    cases p with
    | tup _=>cases g
    | lst _=>cases g
    | fro _=>cases g
    | ref _=>cases g
    | dic=>cases g
    | _=>rw [fz]
  | succ m ih=>
    intro k p g hk
    obtain ⟨k,rfl⟩ : ∃ j,k = j + 1:=⟨k - 1,by omega⟩
    have hL : ∀ xs : List PV,xs.all (good m) = true -> fzL n st k xs = some xs:=by
      intro xs
      induction xs with
      | nil=>intro _; rw [fzL]
      | cons x xs ihx=>
        intro g
        rw [List.all_cons,Bool.and_eq_true] at g
        rw [fzL,ih g.1 (by omega),ihx g.2]; rfl
    cases p with
    | tup xs=>rw [fz,hL xs g]; rfl
    | lst xs=>rw [fz,hL xs g]; rfl
    | fro xs=>rw [fz,hL xs g]; rfl
    | ref _=>cases g
    | dic=>cases g
    | _=>rw [fz]
section
variable {H : Hp} {ρ : Tk} {st : Store} {tr0 rest hs : List Addr}
theorem fz_rep (R : Rel H ρ st) (ht : ρ.tr = tr0 ++ rest) (hh : ∀ a,a ∈ hs -> a ∈ ρ.hid) : ∀ (k : Nat) {p p' : PV} {v : V},Rep H ρ p v -> fz tr0.length st k p = some p' -> Rep H ⟨tr0,hs⟩ p' v:=by
  have out : ∀ a,a ∉ ρ -> a ∉ (⟨tr0,hs⟩ : Tk):=fun a n z=>by
    rcases z with z | z
    · exact n (.inl (by rw [ht]; exact List.mem_append_left _ z))
    · exact n (.inr (hh a z))
  intro k
  induction k with
  | zero=>intro p p' v r e; rw [fz] at e; cases e
  | succ k ih=>
    have hL : ∀ {ps ps' : List PV} {vs : List V},RepL H ρ ps vs -> fzL tr0.length st k ps = some ps' -> RepL H ⟨tr0,hs⟩ ps' vs:=by
      intro ps
      induction ps with
      | nil=>intro ps' vs r e; rw [fzL] at e; cases e; exact r
      | cons x xs ihx=>
        intro ps' vs r e
        obtain ⟨v,t,rfl,r1,r2⟩:=r
        rw [fzL] at e
        cases e1 : fz tr0.length st k x with
        | none=>rw [e1] at e; cases e
        | some y=>
          rw [e1] at e
          have e : (fzL tr0.length st k xs).map (y :: ·) = some ps':=e
          cases e2 : fzL tr0.length st k xs with
          | none=>rw [e2] at e; cases e
          | some ys=>
            rw [e2] at e
            cases e
            exact ⟨v,t,rfl,ih r1 e1,ihx r2 e2⟩
    intro p p' v r e
    cases p with
    | non=>rw [fz] at e; cases e; exact r
    | bl b=>rw [fz] at e; cases e; exact r
    | int i=>rw [fz] at e; cases e; exact r
    | str x=>rw [fz] at e; cases e; exact r
    | tup xs=>
      rw [fz] at e
      obtain ⟨a,vs,e1,ha,na,ra⟩:=r
      cases e2 : fzL tr0.length st k xs with
      | none=>rw [e2] at e; cases e
      | some ys=>rw [e2] at e; cases e; exact ⟨a,vs,e1,ha,out a na,hL ra e2⟩
    | lst xs=>
      rw [fz] at e
      obtain ⟨a,vs,e1,ha,na,ra⟩:=r
      cases e2 : fzL tr0.length st k xs with
      | none=>rw [e2] at e; cases e
      | some ys=>rw [e2] at e; cases e; exact ⟨a,vs,e1,ha,out a na,hL ra e2⟩
    | fro xs=>
      rw [fz] at e
      obtain ⟨a,vs,e1,ha,na,ra⟩:=r
      cases e2 : fzL tr0.length st k xs with
      | none=>rw [e2] at e; cases e
      | some ys=>rw [e2] at e; cases e; exact ⟨a,vs,e1,ha,out a na,hL ra e2⟩
    | dic=>
      rw [fz] at e
      cases e
      obtain ⟨a,e1,ha,na⟩:=r
      exact ⟨a,e1,ha,out a na⟩
    | ref i=>
      rw [fz] at e
      obtain ⟨a,ea,rfl⟩:=r
      by_cases hi : i < tr0.length
      · rw [if_pos hi] at e
        cases e
        rw [ht,List.getElem?_append_left hi] at ea
        exact ⟨a,ea,rfl⟩
      · rw [if_neg hi] at e
        split at e
        · rename_i xs hs'
          obtain ⟨b,vs,f1,f2,f3⟩:=R.lst hs'
          rw [ea] at f1; cases f1
          cases e2 : fzL tr0.length st k xs with
          | none=>rw [e2] at e; cases e
          | some ys=>
            rw [e2] at e; cases e
            refine ⟨a,vs,rfl,f2,fun z=>?_,hL f3 e2⟩
            rcases z with z | z
            · have z : a ∈ tr0:=z
              obtain ⟨j,hj,ej⟩:=List.getElem_of_mem z
              have g1 : ρ.tr[j]? = some a:=by rw [ht,List.getElem?_append_left hj,List.getElem?_eq_getElem hj,ej]
              have l1:=List.getElem?_eq_some_iff.mp g1
              have l2:=List.getElem?_eq_some_iff.mp ea
              have:=nodup_inj R.nd l1.1 l2.1 (l1.2.trans l2.2.symm)
              omega
            · exact R.ap a (hh a z) (List.mem_of_getElem? ea)
        · cases e
mutual
def bel (n : Nat) : PV -> Prop
  | .tup xs=>belL n xs
  | .lst xs=>belL n xs
  | .fro xs=>belL n xs
  | .ref i=>i < n
  | _=>True
def belL (n : Nat) : List PV -> Prop
  | []=>True
  | x :: xs=>bel n x /\ belL n xs
end
mutual
theorem Rep.bel : ∀ {p : PV} {v : V},Rep H ρ p v -> bel ρ.tr.length p
  | .non,_,_=>by simp [Sm.bel]
  | .bl _,_,_=>by simp [Sm.bel]
  | .int _,_,_=>by simp [Sm.bel]
  | .str _,_,_=>by simp [Sm.bel]
  | .tup ps,_,⟨_,_,_,_,_,r⟩=>by rw [Sm.bel]; exact RepL.bel r
  | .lst ps,_,⟨_,_,_,_,_,r⟩=>by rw [Sm.bel]; exact RepL.bel r
  | .fro ps,_,⟨_,_,_,_,_,r⟩=>by rw [Sm.bel]; exact RepL.bel r
  | .ref i,_,⟨_,e,_⟩=>by rw [Sm.bel]; exact (List.getElem?_eq_some_iff.mp e).1
  | .dic,_,_=>by simp [Sm.bel]
theorem RepL.bel : ∀ {ps : List PV} {vs : List V},RepL H ρ ps vs -> belL ρ.tr.length ps
  | [],_,_=>by simp [belL]
  | p :: ps,_,⟨_,_,_,r1,r2⟩=>by rw [belL]; exact ⟨Rep.bel r1,RepL.bel r2⟩
end
mutual
theorem Rep.less (ht : ρ.tr = tr0 ++ rest) (hh : ∀ a,a ∈ hs -> a ∈ ρ.hid) : ∀ {p : PV} {v : V},Sm.bel tr0.length p -> Rep H ρ p v -> Rep H ⟨tr0,hs⟩ p v
  | .non,_,_,r=>r
  | .bl _,_,_,r=>r
  | .int _,_,_,r=>r
  | .str _,_,_,r=>r
  | .tup ps,_,b,⟨a,vs,e,ha,na,r⟩=>⟨a,vs,e,ha,fun z=>na (z.imp (fun z=>by rw [ht]; exact List.mem_append_left _ z) (hh a)),RepL.less ht hh (by rw [Sm.bel] at b; exact b) r⟩
  | .lst ps,_,b,⟨a,vs,e,ha,na,r⟩=>⟨a,vs,e,ha,fun z=>na (z.imp (fun z=>by rw [ht]; exact List.mem_append_left _ z) (hh a)),RepL.less ht hh (by rw [Sm.bel] at b; exact b) r⟩
  | .fro ps,_,b,⟨a,vs,e,ha,na,r⟩=>⟨a,vs,e,ha,fun z=>na (z.imp (fun z=>by rw [ht]; exact List.mem_append_left _ z) (hh a)),RepL.less ht hh (by rw [Sm.bel] at b; exact b) r⟩
  | .ref i,_,b,⟨a,e,e2⟩=>⟨a,by rw [Sm.bel] at b; rw [ht,List.getElem?_append_left b] at e; exact e,e2⟩
  | .dic,_,_,⟨a,e,ha,na⟩=>⟨a,e,ha,fun z=>na (z.imp (fun z=>by rw [ht]; exact List.mem_append_left _ z) (hh a))⟩
theorem RepL.less (ht : ρ.tr = tr0 ++ rest) (hh : ∀ a,a ∈ hs -> a ∈ ρ.hid) : ∀ {ps : List PV} {vs : List V},belL tr0.length ps -> RepL H ρ ps vs -> RepL H ⟨tr0,hs⟩ ps vs
  | [],_,_,r=>r
  | p :: ps,_,b,⟨v,t,e,r1,r2⟩=>by
    rw [belL] at b
    exact ⟨v,t,e,Rep.less ht hh b.1 r1,RepL.less ht hh b.2 r2⟩
end
end
theorem rel_back {H H' : Hp} {ρ ρ' : Tk} {st st' : Store} (R : Rel H ρ st) (x : Ext H ρ H' ρ') (R' : Rel H' ρ' st') (hp : st <+: st') : Ext H ρ H' ρ /\ Rel H' ρ st:=by
  obtain ⟨rest,ht⟩:=x.pre
  obtain ⟨more,hm⟩:=hp
  refine ⟨⟨List.prefix_refl _,fun _ h=>h,fun _ h=>.inl h,x.keep,fun _ h=>.inl h,x.old,x.frz⟩,R.len,R.nd,fun a ha=>let ⟨o,e,n⟩:=R.hd a ha; ⟨o,x.keep a o e (R.ap a ha),n⟩,R.ap,fun i a c h1 h2=>?_⟩
  have hi : i < st.length:=(List.getElem?_eq_some_iff.mp h2).1
  have q:=R'.cell i a c (by rw [<- ht,List.getElem?_append_left (List.getElem?_eq_some_iff.mp h1).1]; exact h1) (by rw [<- hm,List.getElem?_append_left hi]; exact h2)
  have q0:=R.cell i a c h1 h2
  cases c with
  | lst ps=>
    obtain ⟨vs,e1,e2⟩:=q
    obtain ⟨us,_,f2⟩:=q0
    exact ⟨vs,e1,RepL.less (ρ:=ρ') (tr0:=ρ.tr) (hs:=ρ.hid) ht.symm x.hidM f2.bel e2⟩
  | dic ps=>
    obtain ⟨vs,e1,e2⟩:=q
    obtain ⟨us,_,f2⟩:=q0
    exact ⟨vs,e1,e2.1,RepL.less (ρ:=ρ') (tr0:=ρ.tr) (hs:=ρ.hid) ht.symm x.hidM f2.2.bel e2.2⟩
  | dtp ps=>
    obtain ⟨vs,e1,e2⟩:=q
    obtain ⟨us,_,f2⟩:=q0
    exact ⟨vs,e1,e2.1,RepL.less (ρ:=ρ') (tr0:=ρ.tr) (hs:=ρ.hid) ht.symm x.hidM f2.2.bel e2.2⟩
  | frd ps=>
    obtain ⟨vs,e1,e2⟩:=q
    obtain ⟨us,_,f2⟩:=q0
    exact ⟨vs,e1,e2.1,RepL.less (ρ:=ρ') (tr0:=ρ.tr) (hs:=ρ.hid) ht.symm x.hidM f2.2.bel e2.2⟩
  | obj C ps=>
    obtain ⟨vs,e1,e2⟩:=q
    obtain ⟨us,_,f2⟩:=q0
    exact ⟨vs,e1,e2.1,RepL.less (ρ:=ρ') (tr0:=ρ.tr) (hs:=ρ.hid) ht.symm x.hidM f2.2.bel e2.2⟩
abbrev FN:=List PV -> Store -> Res PV
open Classical in
def fin (st : Store) (v : PV) (st' : Store) : Res PV:=if st <+: st' then okO st (fz st.length st' 16 v) else .ok v st'
open Classical in
def finX (st : Store) (x : Exc) (st' : Store) : Res PV:=if st <+: st' then (match x.fs with
  | none=>.exc x st
  | some (n,p)=>match fz st.length st' 16 p with
    | some q=>.exc ⟨x.cls,some (n,q)⟩ st
    | none=>.stuck) else .exc x st'
def callF (body : MS) (nl : Nat) : FN:=fun ps st=>match body (ps.map some ++ List.replicate (nl - ps.length) none) st with
  | .rt v st'=>fin st v st'
  | .nx _ st'=>fin st .non st'
  | .exc x st'=>finX st x st'
  | _=>.stuck
theorem fin_acc {mg : Str -> Option Value} {E : XK} {H : Hp} {ρ : Tk} {st st' : Store} {Q : VK} {p : PV} (R : Rel H ρ st) (h : Acc mg E H ρ (QV Q) (fin st p st')) : ∀ v H' ρ',Ext H ρ H' ρ' -> Rel H' ρ' st' -> Rep H' ρ' p v -> Q v H':=fun v H' ρ' x R' r=>by
  unfold fin at h
  by_cases hp : st <+: st'
  · rw [if_pos hp] at h
    cases e : fz st.length st' 16 p with
    | none=>rw [e] at h; exact h.elim
    | some q=>
      rw [e] at h
      obtain ⟨x2,R2⟩:=rel_back R x R' hp
      obtain ⟨rest,ht⟩:=x.pre
      rw [<- R.len] at e
      exact h H' ρ x2 R2 v (fz_rep (tr0:=ρ.tr) (hs:=ρ.hid) R' ht.symm x.hidM 16 r e)
  · rw [if_neg hp] at h
    exact h H' ρ' x R' v r
def spF (mg : Str -> Option Value) (n : Nat) (F : FN) : Sp:=fun vs H Q E=>vs.length = n /\ ∃ ρ st ps,Rel H ρ st /\ RepL H ρ ps vs /\ Acc mg E H ρ (QV Q) (F ps st)
theorem start_env {H : Hp} {ρ : Tk} {N : List Str} {ps : List PV} {vs : List V} (r : RepL H ρ ps vs) : EnvR H ρ (ps.map some ++ List.replicate (N.length - ps.length) none) (L2.start N vs):=by
  have hl:=r.length
  unfold L2.start
  refine ⟨by simp [hl],fun i p e=>?_⟩
  by_cases hi : i < ps.length
  · rw [List.getElem?_append_left (by simpa using hi),List.getElem?_map] at e
    rw [List.getElem?_append_left (by simp; omega),List.getElem?_map]
    cases q : ps[i]? with
    | none=>rw [q] at e; cases e
    | some p'=>
      rw [q] at e
      cases e
      obtain ⟨v,e1,e2⟩:=r.get q
      exact ⟨v,by rw [e1]; rfl,e2⟩
  · rw [List.getElem?_append_right (by simpa using hi),List.getElem?_replicate] at e
    split at e <;> cases e
section
variable {P : Program} {w : World} {K : PySem.W.Frag} {mg : Str -> Option Value} {base : Heap}
theorem fun_ok {x qual : Str} {st : Stmt} {f : Addr} {fd : FuncData} {N ps : List Str} {k : Nat} {m : MS} (F : Fun K x qual st f fd) (S : FnScope N ps (defScope st))
    (hb : ∀ (cdv : Value) (A : Around) (outer : List PySem.Env) (s : Shared) (H : Hp) (E : XK),Room k (A.deeper (PyProof.Rows.envOfC qual (defScope st) s.heap.objs.size f cdv)) -> SimB (cxD P w K mg base N qual (defScope st) f cdv A outer s H E) E (defBody st) m) :
    FnOk P w K mg base (CXD P w) (k + 1) f fd ps (spF mg ps.length (callF m N.length)):=by
  refine Fun.okD F S (fun vs H Q E h=>h.1) fun cdv A outer s H vs Q E hr hsp=>⟨_,pss_w,?_⟩
  obtain ⟨hl,ρ,st0,pvs,R,rl,hA⟩:=hsp
  refine (hb cdv A outer s H E hr).run _ (L2.start N vs) H ρ st0 _ R (start_env rl) ?_
  unfold callF at hA
  cases rr : m (pvs.map some ++ List.replicate (N.length - pvs.length) none) st0 with
  | rt v st1=>rw [rr] at hA; exact fin_acc R hA
  | nx Γ st1=>rw [rr] at hA; exact fun σ' H' ρ' x' R' G'=>fin_acc R hA .non H' ρ' x' R' rfl
  | bk Γ st1=>rw [rr] at hA; exact hA.elim
  | ct Γ st1=>rw [rr] at hA; exact hA.elim
  | stuck=>rw [rr] at hA; exact hA.elim
  | exc y st1=>
    rw [rr] at hA
    have hA : Acc mg E H ρ (QV Q) (finX st0 y st1):=hA
    intro C dv H' ρ' hm x' R' hf
    unfold finX at hA
    by_cases hp : st0 <+: st1
    · rw [if_pos hp] at hA
      obtain ⟨x2,R2⟩:=rel_back R x' R' hp
      obtain ⟨cls,fs⟩:=y
      cases fs with
      | none=>exact hA C dv H' ρ hm x2 R2 hf
      | some np=>
        obtain ⟨nm,p⟩:=np
        simp only at hA
        cases e : fz st0.length st1 16 p with
        | none=>rw [e] at hA; exact hA.elim
        | some q=>
          rw [e] at hA
          obtain ⟨rest,ht⟩:=x'.pre
          rw [<- R.len] at e
          obtain ⟨dx,v,e1,e2,e3,e4⟩:=hf
          refine hA C dv H' ρ hm x2 R2 ⟨dx,v,e1,e2,fun z=>e3 (z.imp (fun z=>by rw [<- ht]; exact List.mem_append_left _ z) (x'.hidM dx)),fz_rep (tr0:=ρ.tr) (hs:=ρ.hid) R' ht.symm x'.hidM 16 e4 e⟩
    · rw [if_neg hp] at hA
      exact hA C dv H' ρ' hm x' R' hf
end
theorem fun_ok2 {P : Program} {w : World} {K : PySem.W.Frag} {mg : Str -> Option Value} {base : Heap} {x qual : Str} {st : Stmt} {f : Addr} {fd : FuncData} {N ps : List Str} {k n nl : Nat} {m : MS} {FF : FN} (F : Fun K x qual st f fd) (S : FnScope N ps (defScope st)) (hn : ps.length = n) (hnl : N.length = nl) (hF : FF = callF m nl)
    (hb : ∀ (cdv : Value) (A : Around) (outer : List PySem.Env) (s : Shared) (H : Hp) (E : XK),Room k (A.deeper (PyProof.Rows.envOfC qual (defScope st) s.heap.objs.size f cdv)) -> SimB (cxD P w K mg base N qual (defScope st) f cdv A outer s H E) E (defBody st) m) :
    FnOk P w K mg base (CXD P w) (k + 1) f fd ps (spF mg n FF):=by
  subst hn; subst hnl; subst hF
  exact fun_ok F S hb
structure DefS (P : Program) (w : World) (K : PySem.W.Frag) (mg : Str -> Option Value) (base : Heap) (k : Nat) (x : Str) (n : Nat) (F : FN) : Prop where
  ex : ∃ (f : Addr) (fd : FuncData) (ps : List Str),FnOk P w K mg base (CXD P w) k f fd ps (spF mg n F) /\ mg x = some (.ref f) /\ PySem.W.keepIn K (.ref f) = true /\ Binds K fd ps [] /\ ps.length = n
def mCallF (n : Nat) (F : FN) (mr : Gam -> Store -> Res (List PV)) : ME:=fun Γ st=>(mr Γ st).bind fun ps st1=>if ps.length = n then F ps st1 else .stuck
section
variable {X : Cx} {E : XK} {k n : Nat} {x : Str} {F : FN} {p pos : Pos} {e : Expr} {es : List Expr} {mr : Gam -> Store -> Res (List PV)}
theorem se_call (D : DefS X.prog X.w X.K X.mg X.base k x n F) (hr : Room k X.A) (hx : Passes (CXD X.prog X.w) X E) (hg : Gl X x) (ha : SimA X E (e :: es) mr) (hdb : (x == ("__debug__" : Str)) = false:=by decide)
    (he : starEach (e :: es) X.env = (false,eval e X.env) :: starEach es X.env:=by rfl) (hpl : (backTo pos (starEach es X.env)).any (·.1) = false:=by rfl) : SimE X E (.Call (.Name x p) (e :: es) [] pos) (mCallF n F mr):=by
  obtain ⟨f,fd,ps,hF,hm,hk,hb,hl⟩:=D.ex
  exact ⟨fun Γ σ H ρ st Q R G h=>WE.of (pe_call hF hr hg hm hk hb .nil hx pa_w hdb he hpl) (ha.use R G h.bind fun qs st1 H1 ρ1 vs x1 R1 G1 r1 h1=>by
    by_cases hq : qs.length = n
    · rw [if_pos hq] at h1
      show spF X.mg n F (vs ++ []) H1 Q E
      rw [List.append_nil]
      exact ⟨by rw [<- r1.length]; exact hq,ρ1,st1,qs,R1,r1,h1⟩
    · rw [if_neg hq] at h1; exact h1.elim)⟩
end
end Sm
namespace Sm
open PySem PySem.Spec L2
@[simp] theorem bind_ok {α β : Type} (a : α) (st : Store) (f : α -> Store -> Res β) : (Res.ok a st).bind f = f a st:=rfl
@[simp] theorem bind_stuck {α β : Type} (f : α -> Store -> Res β) : (Res.stuck : Res α).bind f = .stuck:=rfl
@[simp] theorem bind_exc {α β : Type} (x : Exc) (st : Store) (f : α -> Store -> Res β) : (Res.exc x st : Res α).bind f = .exc x st:=rfl
@[simp] theorem sbind_ok {α : Type} (a : α) (st : Store) (f : α -> Store -> SR) : (Res.ok a st).sbind f = f a st:=rfl
@[simp] theorem sbind_stuck {α : Type} (f : α -> Store -> SR) : (Res.stuck : Res α).sbind f = .stuck:=rfl
@[simp] theorem sbind_exc {α : Type} (x : Exc) (st : Store) (f : α -> Store -> SR) : (Res.exc x st : Res α).sbind f = .exc x st:=rfl
@[simp] theorem mVar_eq (i : Nat) (Γ : Gam) (st : Store) : mVar i Γ st = (match Γ[i]? with | some (some p)=>.ok p st | _=>.stuck):=rfl
@[simp] theorem mC_eq (p : PV) (Γ : Gam) (st : Store) : mC p Γ st = .ok p st:=rfl
@[simp] theorem mOp_eq (o : OP) (a b : ME) (Γ : Gam) (st : Store) : mOp o a b Γ st = (a Γ st).bind fun x st1=>(b Γ st1).bind fun y st2=>o st2 x y:=rfl
@[simp] theorem asB_bl (b : Bool) (st : Store) : asB (.bl b) st = .ok b st:=rfl
@[simp] theorem toB_eq (m : ME) (Γ : Gam) (st : Store) : toB m Γ st = (m Γ st).bind asB:=rfl
def selB {α : Type} (x : PV) (A B : Res α) : Res α:=match x with
  | .bl true=>A
  | .bl false=>B
  | _=>.stuck
@[simp] theorem selB_bl {α : Type} (b : Bool) (A B : Res α) : selB (.bl b) A B = if b = true then A else B:=by cases b <;> rfl
@[simp] theorem mChain_eq (o o' : OP) (a b c : ME) (Γ : Gam) (st : Store) : mChain o o' a b c Γ st = (a Γ st).bind fun x st1=>(b Γ st1).bind fun y st2=>(o st2 x y).bind fun k st3=>selB k ((c Γ st3).bind fun z st4=>o' st4 y z) (.ok (.bl false) st3):=by
  unfold mChain
  refine congrArg _ (funext fun x=>funext fun st1=>congrArg _ (funext fun y=>funext fun st2=>congrArg _ (funext fun k=>funext fun st3=>?_)))
  cases k with
  | bl b=>cases b <;> rfl
  | _=>rfl
@[simp] theorem mAnd_eq (a b : ME) (Γ : Gam) (st : Store) : mAnd a b Γ st = (a Γ st).bind fun x st1=>selB x (b Γ st1) (.ok (.bl false) st1):=by
  unfold mAnd
  refine congrArg _ (funext fun x=>funext fun st1=>?_)
  cases x with
  | bl b=>cases b <;> rfl
  | _=>rfl
@[simp] theorem mNot_eq (a : ME) (Γ : Gam) (st : Store) : mNot a Γ st = (a Γ st).bind fun x st1=>(match x with | .bl k=>.ok (.bl (!k)) st1 | _=>.stuck):=rfl
@[simp] theorem mNeg_eq (a : ME) (Γ : Gam) (st : Store) : mNeg a Γ st = (a Γ st).bind fun x st1=>(match x with | .int k=>.ok (.int (-k)) st1 | _=>.stuck):=rfl
@[simp] theorem tAndM_eq (a b : MT) (Γ : Gam) (st : Store) : tAndM a b Γ st = (a Γ st).bind fun k st1=>if k = true then b Γ st1 else .ok false st1:=rfl
@[simp] theorem tOrM_eq (a b : MT) (Γ : Gam) (st : Store) : tOrM a b Γ st = (a Γ st).bind fun k st1=>if k = true then .ok true st1 else b Γ st1:=rfl
@[simp] theorem tNotM_eq (a : MT) (Γ : Gam) (st : Store) : tNotM a Γ st = (a Γ st).bind fun k st1=>.ok (!k) st1:=rfl
@[simp] theorem mNil_eq (Γ : Gam) (st : Store) : mNil Γ st = .ok [] st:=rfl
@[simp] theorem mCons_eq (m : ME) (mr : ML) (Γ : Gam) (st : Store) : mCons m mr Γ st = (m Γ st).bind fun p st1=>(mr Γ st1).bind fun ps st2=>.ok (p :: ps) st2:=rfl
@[simp] theorem mTup_eq (mr : ML) (Γ : Gam) (st : Store) : mTup mr Γ st = (mr Γ st).bind fun ps st1=>if ps.length <= lim then .ok (.tup ps) st1 else .stuck:=rfl
@[simp] theorem mLst_eq (mr : ML) (Γ : Gam) (st : Store) : mLst mr Γ st = (mr Γ st).bind fun ps st1=>if ps.length <= lim then .ok (.lst ps) st1 else .stuck:=rfl
@[simp] theorem mLstN_eq (mr : ML) (Γ : Gam) (st : Store) : mLstN mr Γ st = (mr Γ st).bind fun ps st1=>if ps.length <= lim then .ok ps st1 else .stuck:=rfl
@[simp] theorem mSl_eq (m : ME) (l h : Gam -> Store -> Res (Option Int)) (Γ : Gam) (st : Store) : mSl m l h Γ st = (m Γ st).bind fun p st1=>(l Γ st1).bind fun lo st2=>(h Γ st2).bind fun hi st3=>oSl st3 p lo hi:=rfl
@[simp] theorem mNoPart_eq (Γ : Gam) (st : Store) : mNoPart Γ st = .ok none st:=rfl
@[simp] theorem mPart_eq (m : ME) (Γ : Gam) (st : Store) : mPart m Γ st = (m Γ st).bind fun p st1=>(match p with | .int i=>.ok (some i) st1 | _=>.stuck):=rfl
@[simp] theorem mCall_eq (o : CF) (mr : ML) (Γ : Gam) (st : Store) : mCall o mr Γ st = (mr Γ st).bind fun ps st1=>o st1 ps:=rfl
@[simp] theorem mIsI_eq (T : String) (m : ME) (Γ : Gam) (st : Store) : mIsI T m Γ st = (m Γ st).bind fun p st1=>if frzd st1 p = true then .stuck else .ok (.bl (isI T (dpv st1 p))) st1:=rfl
@[simp] theorem frzd_non (st : Store) : frzd st .non = false:=rfl
@[simp] theorem frzd_bl (st : Store) (b : Bool) : frzd st (.bl b) = false:=rfl
@[simp] theorem frzd_int (st : Store) (b : Int) : frzd st (.int b) = false:=rfl
@[simp] theorem frzd_str (st : Store) (b : Str) : frzd st (.str b) = false:=rfl
@[simp] theorem frzd_tup (st : Store) (b : List PV) : frzd st (.tup b) = false:=rfl
@[simp] theorem frzd_lst (st : Store) (b : List PV) : frzd st (.lst b) = false:=rfl
@[simp] theorem frzd_fro (st : Store) (b : List PV) : frzd st (.fro b) = false:=rfl
@[simp] theorem frzd_dic (st : Store) : frzd st .dic = false:=rfl
@[simp] theorem frzd_ref (st : Store) (i : Nat) : frzd st (.ref i) = (match st[i]? with | some (.frd _)=>true | some (.obj _ _)=>true | _=>false):=rfl
@[simp] theorem dpv_non (st : Store) : dpv st .non = .non:=rfl
@[simp] theorem dpv_bl (st : Store) (b : Bool) : dpv st (.bl b) = (.bl b):=rfl
@[simp] theorem dpv_int (st : Store) (b : Int) : dpv st (.int b) = (.int b):=rfl
@[simp] theorem dpv_str (st : Store) (b : Str) : dpv st (.str b) = (.str b):=rfl
@[simp] theorem dpv_tup (st : Store) (b : List PV) : dpv st (.tup b) = (.tup b):=rfl
@[simp] theorem dpv_lst (st : Store) (b : List PV) : dpv st (.lst b) = (.lst b):=rfl
@[simp] theorem dpv_fro (st : Store) (b : List PV) : dpv st (.fro b) = (.fro b):=rfl
@[simp] theorem dpv_dc (st : Store) : dpv st .dic = .dic:=rfl
@[simp] theorem dpv_r (st : Store) (i : Nat) : dpv st (.ref i) = (match st[i]? with | some (.dic _)=>.dic | some (.dtp _)=>.dic | _=>.ref i):=rfl
@[simp] theorem mVal_eq (m : ML) (Γ : Gam) (st : Store) : mVal m Γ st = (m Γ st).bind fun ps st1=>.ok (.lst ps) st1:=rfl
@[simp] theorem mTrk_eq (m : ML) (Γ : Gam) (st : Store) : mTrk m Γ st = (m Γ st).bind fun ps st1=>.ok (.ref st1.length) (st1 ++ [.lst ps]):=rfl
@[simp] theorem mCompN_eq (cap : List (Option Nat)) (ga : GA) (mi : MI) (mt : MT) (me : ME) (Γ : Gam) (st : Store) : mCompN cap ga mi mt me Γ st = (mi Γ st).bind fun iw st1=>noX (compG ga mt me iw.2 (capG cap Γ) iw.1 st1):=rfl
@[simp] theorem mTrue_eq (Γ : Gam) (st : Store) : mTrue Γ st = .ok true st:=rfl
@[simp] theorem mCallF_eq (n : Nat) (F : FN) (mr : ML) (Γ : Gam) (st : Store) : mCallF n F mr Γ st = (mr Γ st).bind fun ps st1=>if ps.length = n then F ps st1 else .stuck:=rfl
@[simp] theorem mNext_eq (Γ : Gam) (st : Store) : mNext Γ st = .nx Γ st:=rfl
@[simp] theorem mSeqS_eq (a b : MS) (Γ : Gam) (st : Store) : mSeqS a b Γ st = (match a Γ st with | .nx Γ1 st1=>b Γ1 st1 | r=>r):=rfl
@[simp] theorem mExpr_eq (m : ME) (Γ : Gam) (st : Store) : mExpr m Γ st = (m Γ st).sbind fun _ st1=>.nx Γ st1:=rfl
@[simp] theorem mRet_eq (m : ME) (Γ : Gam) (st : Store) : mRet m Γ st = (m Γ st).sbind fun p st1=>.rt p st1:=rfl
@[simp] theorem mSet_eq (i : Nat) (m : ME) (Γ : Gam) (st : Store) : mSet i m Γ st = (m Γ st).sbind fun p st1=>.nx (Γ.set i (some p)) st1:=rfl
@[simp] theorem mIfS_eq (c : MT) (a b : MS) (Γ : Gam) (st : Store) : mIfS c a b Γ st = (c Γ st).sbind fun k st1=>if k = true then a Γ st1 else b Γ st1:=rfl
@[simp] theorem mFor_eq (ga : GA) (mi : MI) (b : MS) (Γ : Gam) (st : Store) : mFor ga mi b Γ st = (mi Γ st).sbind fun iw st1=>forG ga b iw.2 iw.1 Γ st1:=rfl
@[simp] theorem mSeq_eq (m : ME) (Γ : Gam) (st : Store) : mSeq m Γ st = (m Γ st).bind fun p st1=>(match srcOf st1 p with | some (xs,w)=>if xs.length <= lim then .ok (xs,w) st1 else .stuck | none=>.stuck):=rfl
@[simp] theorem mRange1_eq (mr : ML) (Γ : Gam) (st : Store) : mRange1 mr Γ st = (mr Γ st).bind fun ps st1=>(match ps with | [.int j]=>if -(lim : Int) <= j /\ j <= lim then .ok (rangeI 0 j.toNat,[]) st1 else .stuck | _=>.stuck):=rfl
@[simp] theorem mRange2_eq (mr : ML) (Γ : Gam) (st : Store) : mRange2 mr Γ st = (mr Γ st).bind fun ps st1=>(match ps with | [.int i,.int j]=>if -(lim : Int) <= i /\ i <= lim /\ -(lim : Int) <= j /\ j <= lim then .ok (rangeI i (j - i).toNat,[]) st1 else .stuck | _=>.stuck):=rfl
@[simp] theorem mZip_eq (mr : ML) (Γ : Gam) (st : Store) : mZip mr Γ st = (mr Γ st).bind fun ps st1=>(match ps with | [p,q]=>(match srcOf st1 p,srcOf st1 q with | some (xs,w),some (ys,w')=>if xs.length <= lim then .ok (zipT xs ys,w ++ w') st1 else .stuck | _,_=>.stuck) | _=>.stuck):=rfl
@[simp] theorem mEnum_eq (mr : ML) (Γ : Gam) (st : Store) : mEnum mr Γ st = (mr Γ st).bind fun ps st1=>(match ps with | [p]=>(match srcOf st1 p with | some (xs,w)=>if xs.length <= lim then .ok (enumT 0 xs,w) st1 else .stuck | none=>.stuck) | _=>.stuck):=rfl
@[simp] theorem mBM_eq (f : MF) (mo : ME) (mr : ML) (Γ : Gam) (st : Store) : mBM f mo mr Γ st = (mo Γ st).bind fun p st1=>(match listOf st1 p with | some _=>(mr Γ st1).bind fun ps st2=>f st2 p ps | none=>.stuck):=rfl
@[simp] theorem mAsg_eq (ga : GA) (m : ME) (Γ : Gam) (st : Store) : mAsg ga m Γ st = (m Γ st).sbind fun p st1=>(match ga p Γ with | some Γ1=>.nx Γ1 st1 | none=>.stuck):=rfl
@[simp] theorem mSetIx_eq (mo mi m : ME) (Γ : Gam) (st : Store) : mSetIx mo mi m Γ st = (m Γ st).sbind fun p st1=>(mo Γ st1).sbind fun o st2=>(mi Γ st2).sbind fun i st3=>(match setIx st3 o i p with | some st4=>.nx Γ st4 | none=>.stuck):=rfl
@[simp] theorem mRaise_eq (x : Str) (m : ME) (Γ : Gam) (st : Store) : mRaise x m Γ st = (m Γ st).sbind fun _ st1=>.exc ⟨x,none⟩ st1:=rfl
@[simp] theorem gaName_eq (i : Nat) (p : PV) (Γ : Gam) : gaName i p Γ = some (Γ.set i (some p)):=rfl
@[simp] theorem gaNil_eq (Γ : Gam) : gaNil [] Γ = some Γ:=rfl
@[simp] theorem gaCons_eq (g : GA) (gs : GAs) (p : PV) (r : List PV) (Γ : Gam) : gaCons g gs (p :: r) Γ = (g p Γ).bind (gs r):=rfl
@[simp] theorem gaTup_eq (gs : GAs) (ps : List PV) (Γ : Gam) : gaTup gs (.tup ps) Γ = gs ps Γ:=rfl
@[simp] theorem noX_ok {α : Type} (a : α) (st : Store) : noX (Res.ok a st) = .ok a st:=rfl
@[simp] theorem noX_stuck {α : Type} : noX (Res.stuck : Res α) = .stuck:=rfl
@[simp] theorem okO_some {α : Type} (st : Store) (a : α) : okO st (some a) = .ok a st:=rfl
@[simp] theorem okO_none {α : Type} (st : Store) : okO st (none : Option α) = .stuck:=rfl
@[simp] theorem oI_eq (g : Int -> Int -> PV) (st : Store) (a b : Int) : oI g st (.int a) (.int b) = .ok (g a b) st:=rfl
@[simp] theorem oAdd_int (st : Store) (a b : Int) : oAdd st (.int a) (.int b) = .ok (.int (a + b)) st:=rfl
@[simp] theorem oAdd_tup (st : Store) (a b : List PV) : oAdd st (.tup a) (.tup b) = if a.length + b.length <= lim then .ok (.tup (a ++ b)) st else .stuck:=rfl
@[simp] theorem oMul_int (st : Store) (a b : Int) : oMul st (.int a) (.int b) = if (-(2 ^ 64) < a /\ a < 2 ^ 64) \/ (-(2 ^ 64) < b /\ b < 2 ^ 64) then .ok (.int (a * b)) st else .stuck:=rfl
@[simp] theorem oMul_tup (st : Store) (xs : List PV) (b : Int) : oMul st (.tup xs) (.int b) = if xs ≠ [] /\ 1 <= b /\ xs.length * b.toNat <= 4096 then .ok (.tup (List.replicate b.toNat xs).flatten) st else .stuck:=rfl
@[simp] theorem oMod_int (st : Store) (a b : Int) : oMod st (.int a) (.int b) = if 0 < b then .ok (.int (a % b)) st else .stuck:=rfl
@[simp] theorem oDiv_int (st : Store) (a b : Int) : oDiv st (.int a) (.int b) = if 0 < b /\ b < 1073741824 then .ok (.int (a / b)) st else .stuck:=rfl
@[simp] theorem oPow_int (st : Store) (a b : Int) : oPow st (.int a) (.int b) = if 0 <= b /\ b <= 1000000 /\ a.natAbs < 2 ^ 64 then .ok (.int (a ^ b.toNat)) st else .stuck:=rfl
@[simp] theorem oLt_int (st : Store) (a b : Int) : oLt st (.int a) (.int b) = .ok (.bl (decide (a < b))) st:=rfl
@[simp] theorem oEq_int (st : Store) (a b : Int) : oEq st (.int a) (.int b) = .ok (.bl (a == b)) st:=rfl
@[simp] theorem oNe_int (st : Store) (a b : Int) : oNe st (.int a) (.int b) = .ok (.bl (!(a == b))) st:=rfl
@[simp] theorem oEq_bl (st : Store) (a b : Bool) : oEq st (.bl a) (.bl b) = .ok (.bl (a == b)) st:=rfl
@[simp] theorem oNe_bl (st : Store) (a b : Bool) : oNe st (.bl a) (.bl b) = .ok (.bl (!(a == b))) st:=rfl
@[simp] theorem oEq_str (st : Store) (a b : Str) : oEq st (.str a) (.str b) = .ok (.bl (a == b)) st:=rfl
@[simp] theorem oNe_str (st : Store) (a b : Str) : oNe st (.str a) (.str b) = .ok (.bl (!(a == b))) st:=rfl
@[simp] theorem lstOf_lst (st : Store) (xs : List PV) : lstOf st (.lst xs) = some xs:=rfl
@[simp] theorem listOf_lst (st : Store) (xs : List PV) : listOf st (.lst xs) = some xs:=rfl
@[simp] theorem listOf_fro (st : Store) (xs : List PV) : listOf st (.fro xs) = some xs:=rfl
@[simp] theorem seqOf_lst (st : Store) (xs : List PV) : seqOf st (.lst xs) = some xs:=rfl
@[simp] theorem seqOf_fro (st : Store) (xs : List PV) : seqOf st (.fro xs) = some xs:=rfl
@[simp] theorem seqOf_tup (st : Store) (xs : List PV) : seqOf st (.tup xs) = some xs:=rfl
@[simp] theorem srcOf_lst (st : Store) (xs : List PV) : srcOf st (.lst xs) = some (xs,[]):=rfl
@[simp] theorem srcOf_fro (st : Store) (xs : List PV) : srcOf st (.fro xs) = some (xs,[]):=rfl
@[simp] theorem srcOf_tup (st : Store) (xs : List PV) : srcOf st (.tup xs) = some (xs,[]):=rfl
theorem lstOf_ref {st : Store} {i : Nat} {xs : List PV} (h : st[i]? = some (.lst xs)) : lstOf st (.ref i) = some xs:=by simp only [lstOf,h]
theorem listOf_ref {st : Store} {i : Nat} {xs : List PV} (h : st[i]? = some (.lst xs)) : listOf st (.ref i) = some xs:=lstOf_ref h
theorem srcOf_ref {st : Store} {i : Nat} {xs : List PV} (h : st[i]? = some (.lst xs)) : srcOf st (.ref i) = some (xs,[(i,.lst xs)]):=by simp only [srcOf,h]
@[simp] theorem oIx_tup (st : Store) (xs : List PV) (i : Int) : oIx st (.tup xs) (.int i) = okO st (atI xs i):=rfl
@[simp] theorem oIx_lst (st : Store) (xs : List PV) (i : Int) : oIx st (.lst xs) (.int i) = okO st (atI xs i):=rfl
@[simp] theorem oIx_fro (st : Store) (xs : List PV) (i : Int) : oIx st (.fro xs) (.int i) = okO st (atI xs i):=rfl
@[simp] theorem oSl_tup (st : Store) (xs : List PV) (l h : Option Int) : oSl st (.tup xs) l h = .ok (.tup (cut xs l h)) st:=rfl
@[simp] theorem oSl_lst (st : Store) (xs : List PV) (l h : Option Int) : oSl st (.lst xs) l h = .ok (.lst (cut xs l h)) st:=rfl
@[simp] theorem oSl_fro (st : Store) (xs : List PV) (l h : Option Int) : oSl st (.fro xs) l h = .ok (.lst (cut xs l h)) st:=rfl
@[simp] theorem cLen_tup (st : Store) (xs : List PV) : cLen st [.tup xs] = .ok (.int xs.length) st:=rfl
@[simp] theorem cLen_lst (st : Store) (xs : List PV) : cLen st [.lst xs] = .ok (.int xs.length) st:=rfl
@[simp] theorem cLen_fro (st : Store) (xs : List PV) : cLen st [.fro xs] = .ok (.int xs.length) st:=rfl
@[simp] theorem cList_tup (st : Store) (xs : List PV) : cList st [.tup xs] = .ok (.lst xs) st:=rfl
@[simp] theorem cList_lst (st : Store) (xs : List PV) : cList st [.lst xs] = .ok (.lst xs) st:=rfl
@[simp] theorem cList_fro (st : Store) (xs : List PV) : cList st [.fro xs] = .ok (.lst xs) st:=rfl
@[simp] theorem cTuple_tup (st : Store) (xs : List PV) : cTuple st [.tup xs] = .ok (.tup xs) st:=rfl
@[simp] theorem cTuple_lst (st : Store) (xs : List PV) : cTuple st [.lst xs] = .ok (.tup xs) st:=rfl
@[simp] theorem cBls_lst (g : List Bool -> PV) (st : Store) (bs : List Bool) : cBls g st [.lst (bs.map .bl)] = .ok (g bs) st:=by
  simp only [cBls,seqOf_lst,Option.bind_some,bls_map]
@[simp] theorem cInts_lst (g : List Int -> Option PV) (st : Store) (ns : List Int) : cInts g st [.lst (ns.map .int)] = okO st (g ns):=by
  simp only [cInts,seqOf_lst,Option.bind_some,ints_map]
@[simp] theorem cInts_tup (g : List Int -> Option PV) (st : Store) (ns : List Int) : cInts g st [.tup (ns.map .int)] = okO st (g ns):=by
  simp only [cInts,seqOf_tup,Option.bind_some,ints_map]
@[simp] theorem cMax_int (st : Store) (a b : Int) : cMax st [.int a,.int b] = .ok (.int (if b > a then b else a)) st:=rfl
@[simp] theorem cMin_int (st : Store) (a b : Int) : cMin st [.int a,.int b] = .ok (.int (if b < a then b else a)) st:=rfl
@[simp] theorem wOk_nil' (st : Store) : wOk [] st = True:=by simp [wOk]
@[simp] theorem fin_bl (st : Store) (b : Bool) : fin st (.bl b) st = .ok (.bl b) st:=by simp [fin,fz]
@[simp] theorem fin_int (st : Store) (b : Int) : fin st (.int b) st = .ok (.int b) st:=by simp [fin,fz]
@[simp] theorem fin_non (st : Store) : fin st .non st = .ok .non st:=by simp [fin,fz]
@[simp] theorem fin_str (st : Store) (b : Str) : fin st (.str b) st = .ok (.str b) st:=by simp [fin,fz]
theorem lim_eq : lim = 1000000:=rfl
theorem compG_on {α : Type} (g f : α -> PV) {ga : GA} {me : ME} {w : Wt} {Γ0 : Gam} {st : Store} (hw : wOk w st) {ys : List α} (h : ∀ y ∈ ys,∃ Γ1,ga (g y) Γ0 = some Γ1 /\ me Γ1 st = .ok (f y) st) : compG ga mTrue me w Γ0 (ys.map g) st = .ok (ys.map f) st:=by
  induction ys with
  | nil=>simp [compG,hw]
  | cons y ys ih=>
    obtain ⟨Γ1,h1,h2⟩:=h y List.mem_cons_self
    have ih:=ih fun z hz=>h z (List.mem_cons_of_mem _ hz)
    rw [List.map_cons,compG,if_pos hw,h1]
    simp [h2,ih]
theorem compG_onF {α : Type} (g f : α -> PV) (t : α -> Bool) {ga : GA} {mt : MT} {me : ME} {w : Wt} {Γ0 : Gam} {st : Store} (hw : wOk w st) {ys : List α} (h : ∀ y ∈ ys,∃ Γ1,ga (g y) Γ0 = some Γ1 /\ mt Γ1 st = .ok (t y) st /\ (t y = true -> me Γ1 st = .ok (f y) st)) : compG ga mt me w Γ0 (ys.map g) st = .ok ((ys.filter t).map f) st:=by
  induction ys with
  | nil=>simp [compG,hw]
  | cons y ys ih=>
    obtain ⟨Γ1,h1,h2,h3⟩:=h y List.mem_cons_self
    have ih:=ih fun z hz=>h z (List.mem_cons_of_mem _ hz)
    rw [List.map_cons,compG,if_pos hw,h1]
    simp only [h2,bind_ok,ih]
    cases tx : t y with
    | true=>simp [h3 tx,tx,ih]
    | false=>simp [tx]
@[simp] theorem cBls_map {α : Type} (g : List Bool -> PV) (st : Store) (ys : List α) (b : α -> Bool) : cBls g st [.lst (ys.map fun y=>.bl (b y))] = .ok (g (ys.map b)) st:=by
  rw [show (ys.map fun y=>PV.bl (b y)) = (ys.map b).map .bl by rw [List.map_map]; rfl,cBls_lst]
@[simp] theorem cInts_map {α : Type} (g : List Int -> Option PV) (st : Store) (ys : List α) (b : α -> Int) : cInts g st [.lst (ys.map fun y=>.int (b y))] = okO st (g (ys.map b)):=by
  rw [show (ys.map fun y=>PV.int (b y)) = (ys.map b).map .int by rw [List.map_map]; rfl,cInts_lst]
theorem forG_inv {α : Type} (g : α -> PV) {xs : List α} (I : Nat -> Gam -> Store -> Prop) {ga : GA} {body : MS} {w : Wt} (hw : ∀ i Γ st,I i Γ st -> wOk w st)
    (h : ∀ (i : Nat) x Γ st,xs[i]? = some x -> I i Γ st -> ∃ Γ1,ga (g x) Γ = some Γ1 /\ ∃ Γ2 st2,body Γ1 st = .nx Γ2 st2 /\ I (i + 1) Γ2 st2) {Γ : Gam} {st : Store} (h0 : I 0 Γ st) : ∃ Γ' st',forG ga body w (xs.map g) Γ st = .nx Γ' st' /\ I xs.length Γ' st':=by
  induction xs generalizing I Γ st with
  | nil=>exact ⟨Γ,st,by simp [forG,hw 0 Γ st h0],h0⟩
  | cons x xs ih=>
    obtain ⟨Γ1,h1,Γ2,st2,e2,i2⟩:=h 0 x Γ st rfl h0
    obtain ⟨Γ',st',e3,i3⟩:=ih (fun i=>I (i + 1)) (fun i Γ st z=>hw (i + 1) Γ st z) (fun i y Γ st hy z=>h (i + 1) y Γ st (by simpa using hy) z) i2
    refine ⟨Γ',st',?_,i3⟩
    rw [List.map_cons,forG,if_pos (hw 0 Γ st h0),h1]
    simp only [e2]
    exact e3
theorem forG_invL {α : Type} (g : α -> PV) {xs : List α} (I : List α -> Gam -> Store -> Prop) {ga : GA} {body : MS} {w : Wt} (hw : ∀ pre Γ st,I pre Γ st -> wOk w st)
    (h : ∀ pre x post Γ st,xs = pre ++ x :: post -> I pre Γ st -> ∃ Γ1,ga (g x) Γ = some Γ1 /\ ∃ Γ2 st2,body Γ1 st = .nx Γ2 st2 /\ I (pre ++ [x]) Γ2 st2) {Γ : Gam} {st : Store} (h0 : I [] Γ st) : ∃ Γ' st',forG ga body w (xs.map g) Γ st = .nx Γ' st' /\ I xs Γ' st':=by
  have key : ∀ (post pre : List α) (Γ : Gam) (st : Store),xs = pre ++ post -> I pre Γ st -> ∃ Γ' st',forG ga body w (post.map g) Γ st = .nx Γ' st' /\ I xs Γ' st':=by
    intro post
    induction post with
    | nil=>intro pre Γ st e i; exact ⟨Γ,st,by simp [forG,hw pre Γ st i],by rw [e,List.append_nil]; exact i⟩
    | cons x post ih=>
      intro pre Γ st e i
      obtain ⟨Γ1,h1,Γ2,st2,e2,i2⟩:=h pre x post Γ st e i
      obtain ⟨Γ',st',e3,i3⟩:=ih (pre ++ [x]) Γ2 st2 (by rw [e]; simp) i2
      refine ⟨Γ',st',?_,i3⟩
      rw [List.map_cons,forG,if_pos (hw pre Γ st i),h1]
      simp only [e2]
      exact e3
  exact key xs [] Γ st rfl h0
theorem zipT_map {α β : Type} (f : α -> PV) (g : β -> PV) (xs : List α) (ys : List β) : zipT (xs.map f) (ys.map g) = (xs.zip ys).map fun z=>.tup [f z.1,g z.2]:=by
  rw [zipT_eq,List.zip_map,List.map_map]; rfl
theorem atI_map {α : Type} (f : α -> PV) (xs : List α) (i : Int) : atI (xs.map f) i = (atI xs i).map f:=by
  unfold atI
  rw [List.length_map]
  cases ixN xs.length i with
  | none=>rfl
  | some j=>simp [List.getElem?_map]
theorem atI_get {α : Type} {xs : List α} {i : Nat} {x : α} (h : xs[i]? = some x) : atI xs (i : Int) = some x:=by
  have hl:=(List.getElem?_eq_some_iff.mp h).1
  unfold atI ixN
  rw [if_pos (by omega),if_pos (by omega)]
  simpa using h
theorem cut_map {α : Type} (f : α -> PV) (xs : List α) (l h : Option Int) : cut (xs.map f) l h = (cut xs l h).map f:=by
  unfold cut
  rw [List.length_map,<- List.map_drop,<- List.map_take]
theorem rangeI0 (n : Nat) : rangeI 0 n = (List.range n).map fun (k : Nat)=>PV.int (k : Int):=by
  unfold rangeI
  refine List.map_congr_left fun k _=>?_
  rw [Int.zero_add]
@[simp] theorem tr_get {α : Type} (st l : List α) (c : α) : (st ++ c :: l)[st.length]? = some c:=by
  rw [List.getElem?_append_right (Nat.le_refl _),Nat.sub_self]; rfl
@[simp] theorem tr_get1 {α : Type} (st l : List α) (c d : α) : (st ++ c :: d :: l)[st.length + 1]? = some d:=by
  rw [List.getElem?_append_right (by omega)]
  rw [show st.length + 1 - st.length = 1 by omega]; rfl
@[simp] theorem tr_set {α : Type} (st l : List α) (c d : α) : (st ++ c :: l).set st.length d = st ++ d :: l:=by
  rw [List.set_append_right _ _ (Nat.le_refl _),Nat.sub_self]; rfl
@[simp] theorem tr_set1 {α : Type} (st l : List α) (c c' d : α) : (st ++ c :: c' :: l).set (st.length + 1) d = st ++ c :: d :: l:=by
  rw [List.set_append_right _ _ (by omega),show st.length + 1 - st.length = 1 by omega]; rfl
@[simp] theorem chg_ref (st : Store) (i : Nat) (g : List PV -> Option (PV × List PV)) : chg st (.ref i) g = (match st[i]? with | some (.lst xs)=>(match g xs with | some (r,ys)=>.ok r (st.set i (.lst ys)) | none=>.stuck) | _=>.stuck):=rfl
@[simp] theorem lstOf_r (st : Store) (i : Nat) : lstOf st (.ref i) = (match st[i]? with | some (.lst xs)=>some xs | _=>none):=rfl
@[simp] theorem listOf_r (st : Store) (i : Nat) : listOf st (.ref i) = (match st[i]? with | some (.lst xs)=>some xs | _=>none):=rfl
@[simp] theorem seqOf_r (st : Store) (i : Nat) : seqOf st (.ref i) = (match st[i]? with | some (.lst xs)=>some xs | _=>none):=rfl
@[simp] theorem srcOf_r (st : Store) (i : Nat) : srcOf st (.ref i) = (match st[i]? with | some (.lst xs)=>some (xs,[(i,.lst xs)]) | _=>none):=rfl
@[simp] theorem mtAppend_eq (st : Store) (p y : PV) : mtAppend st p [y] = chg st p fun xs=>if xs.length < lim then some (.non,xs ++ [y]) else none:=rfl
@[simp] theorem cTuple_r (st : Store) (i : Nat) : cTuple st [.ref i] = (match st[i]? with | some (.lst xs)=>.ok (.tup xs) st | _=>.stuck):=by
  unfold cTuple; simp only [seqOf_r]
  cases st[i]? with
  | none=>rfl
  | some c=>cases c <;> rfl
@[simp] theorem cList_r (st : Store) (i : Nat) : cList st [.ref i] = (match st[i]? with | some (.lst xs)=>.ok (.lst xs) st | _=>.stuck):=by
  unfold cList; simp only [seqOf_r]
  cases st[i]? with
  | none=>rfl
  | some c=>cases c <;> rfl
@[simp] theorem cLen_r (st : Store) (i : Nat) : cLen st [.ref i] = (match st[i]? with | some (.lst xs)=>.ok (.int xs.length) st | _=>.stuck):=by
  unfold cLen; simp only [seqOf_r]
  cases st[i]? with
  | none=>rfl
  | some c=>cases c <;> rfl
@[simp] theorem oIx_r (st : Store) (i : Nat) (j : Int) : oIx st (.ref i) (.int j) = (match st[i]? with | some (.lst xs)=>okO st (atI xs j) | _=>.stuck):=by
  unfold oIx; simp only [seqOf_r]
  cases st[i]? with
  | none=>rfl
  | some c=>cases c <;> rfl
@[simp] theorem setIx_r (st : Store) (k : Nat) (j : Int) (p : PV) : setIx st (.ref k) (.int j) p = (match st[k]? with | some (.lst xs)=>(ixN xs.length j).map fun n=>st.set k (.lst (xs.set n p)) | _=>none):=rfl
theorem cut_front {α : Type} (xs : List α) (k : Nat) : cut xs none (some (k : Int)) = xs.take k:=by
  unfold cut
  rw [HT.sIx_none,HT.sIx_nat,List.drop_zero,Nat.sub_zero]
  rcases Nat.le_total k xs.length with h | h
  · rw [Nat.min_eq_left h]
  · rw [Nat.min_eq_right h,List.take_length,List.take_of_length_le h]
theorem cut_back {α : Type} (xs : List α) (k : Nat) : cut xs (some (k : Int)) none = xs.drop k:=by
  unfold cut
  rw [HT.sIx_none,HT.sIx_nat]
  rcases Nat.le_total k xs.length with h | h
  · rw [Nat.min_eq_left h,List.take_of_length_le (by rw [List.length_drop]; omega)]
  · rw [Nat.min_eq_right h,List.drop_length,List.drop_of_length_le h]; simp
end Sm
namespace Sm
open PySem PySem.Spec L2
theorem getD_some {α : Type} {l : List α} {j : Nat} (h : j < l.length) (d : α) : l[j]? = some (l.getD j d):=by
  rw [List.getD,List.getElem?_eq_getElem h]; rfl
def ListAt (st : Store) (V : PV) (xs : List PV) : Prop:=V = .lst xs \/ V = .fro xs \/ ∃ i,V = .ref i /\ st[i]? = some (.lst xs)
theorem ListAt.ix {st : Store} {V : PV} {xs : List PV} (h : ListAt st V xs) (j : Int) : oIx st V (.int j) = okO st (atI xs j):=by
  rcases h with rfl | rfl | ⟨i,rfl,e⟩
  · rfl
  · rfl
  · rw [oIx_r,e]
theorem ListAt.len {st : Store} {V : PV} {xs : List PV} (h : ListAt st V xs) : cLen st [V] = .ok (.int xs.length) st:=by
  rcases h with rfl | rfl | ⟨i,rfl,e⟩
  · rfl
  · rfl
  · rw [cLen_r,e]
theorem compG_inv {α : Type} (g : α -> PV) {xs : List α} (I : Nat -> List PV -> Store -> Prop) {ga : GA} {me : ME} {w : Wt} {Γ0 : Gam} (hw : ∀ i out st,I i out st -> wOk w st)
    (h : ∀ (i : Nat) x out st,xs[i]? = some x -> I i out st -> ∃ Γ1,ga (g x) Γ0 = some Γ1 /\ ∃ v st2,me Γ1 st = .ok v st2 /\ I (i + 1) (out ++ [v]) st2) {st : Store} (h0 : I 0 [] st) : ∃ out st',compG ga mTrue me w Γ0 (xs.map g) st = .ok out st' /\ I xs.length out st':=by
  have key : ∀ (ys : List α) (k : Nat) (pre : List PV) (st : Store),(∀ i,ys[i]? = xs[k + i]?) -> k + ys.length = xs.length -> I k pre st -> ∃ out st',compG ga mTrue me w Γ0 (ys.map g) st = .ok out st' /\ I xs.length (pre ++ out) st':=by
    intro ys
    induction ys with
    | nil=>
      intro k pre st e e2 i
      refine ⟨[],st,by simp [compG,hw k pre st i],?_⟩
      rw [List.append_nil,<- e2]; exact i
    | cons y ys ih=>
      intro k pre st e e2 i
      have e0 : xs[k]? = some y:=by have:=e 0; simpa using this.symm
      obtain ⟨Γ1,h1,v,st2,h2,i2⟩:=h k y pre st e0 i
      obtain ⟨out,st',h3,i3⟩:=ih (k + 1) (pre ++ [v]) st2 (fun i=>by
        have:=e (i + 1)
        rw [List.getElem?_cons_succ] at this
        rw [this]; congr 1; omega) (by rw [<- e2,List.length_cons]; omega) i2
      refine ⟨v :: out,st',?_,by simpa using i3⟩
      rw [List.map_cons,compG,if_pos (hw k pre st i),h1]
      simp [mTrue,h2,h3]
  obtain ⟨out,st',h1,h2⟩:=key xs 0 [] st (fun i=>by simp) (by simp) h0
  exact ⟨out,st',h1,by simpa using h2⟩
@[simp] theorem mAddN_eq (ma mb : ME) (Γ : Gam) (st : Store) : mAddN ma mb Γ st = (ma Γ st).bind fun x st1=>(mb Γ st1).bind fun y st2=>oAddN st2 x y:=rfl
theorem peqL_self : ∀ {xs : List PV},(∀ x ∈ xs,peq x x = true) -> peqL xs xs = true
  | [],_=>rfl
  | x :: xs,h=>by
    rw [peqL,h x List.mem_cons_self,peqL_self fun y hy=>h y (List.mem_cons_of_mem _ hy)]; rfl
theorem peq_self : ∀ {n : Nat} {p : PV},good n p = true -> peq p p = true
  | n,.non,_=>rfl
  | n,.bl b,_=>by simp [peq]
  | n,.int b,_=>by simp [peq]
  | n,.str b,_=>by simp [peq]
  | n,.ref _,g=>by cases n <;> simp [good] at g
  | n,.dic,g=>by cases n <;> simp [good] at g
  | 0,.tup _,g=>by simp [good] at g
  | 0,.lst _,g=>by simp [good] at g
  | 0,.fro _,g=>by simp [good] at g
  | n + 1,.tup xs,g=>by
    rw [peq]; refine peqL_self fun x hx=>peq_self (n:=n) ?_
    simp [good] at g; exact g x hx
  | n + 1,.lst xs,g=>by
    rw [peq]; refine peqL_self fun x hx=>peq_self (n:=n) ?_
    simp [good] at g; exact g x hx
  | n + 1,.fro xs,g=>by
    rw [peq]; refine peqL_self fun x hx=>peq_self (n:=n) ?_
    simp [good] at g; exact g x hx
end Sm
namespace Sm
open PySem PySem.Spec L2
section
variable {X : Cx} {E : XK} {a b : Expr} {ma mb : ME} {pos : Pos}
def mRevN (ma mb : ME) : ML:=fun Γ st=>(ma Γ st).bind fun p st1=>(mb Γ st1).bind fun q st2=>match q,listOf st2 p with
  | .int i,some xs=>if i = -1 then .ok xs.reverse st2 else .stuck
  | _,_=>.stuck
theorem sn_rev {p2 : Pos} (ha : SimE X E a ma) (hb : SimE X E b mb) : SimN X E (.Subscript a (.Slice none none (some b) p2) pos) (mRevN ma mb):=
  ⟨fun Γ σ H ρ st P Q R G hq k=>WE.of (pe_rev pe_w pe_w) (ha.use' R G hq.bind fun p st1 H1 ρ1 v e1 x1 R1 G1 r1 h1=>hb.use' R1 G1 h1.bind fun q st2 H2 ρ2 u e2 x2 R2 G2 r2 h2=>by
    split at h2
    · rename_i i xs f
      split at h2
      · rename_i hi
        subst hi
        have eu : u = .int (-1):=r2
        subst eu
        obtain ⟨c,vs,rfl,hc,rc⟩:=list_at R2 (r1.ext x2) f
        refine ⟨rfl,c,vs,rfl,.inl hc,new_at (x1.trans x2) R2 rc.reverse fun H3 ρ3 z us=>k xs.reverse st2 H3 ρ3 z us ?_⟩
        unfold mRevN
        rw [e1]
        show (mb Γ st1).bind _ = _
        rw [e2]
        show (match PV.int (-1),listOf st2 p with | .int i,some xs=>if i = -1 then Res.ok xs.reverse st2 else .stuck | _,_=>.stuck) = _
        rw [f]
        rfl
      · exact h2.elim
    · exact h2.elim)⟩
@[simp] theorem mRevN_eq (ma mb : ME) (Γ : Gam) (st : Store) : mRevN ma mb Γ st = (ma Γ st).bind fun p st1=>(mb Γ st1).bind fun q st2=>match q,listOf st2 p with
  | .int i,some xs=>if i = -1 then .ok xs.reverse st2 else .stuck
  | _,_=>.stuck:=rfl
end
end Sm
namespace Sm
open PySem PySem.Spec L2
def callK (body : MS) (nl : Nat) : FN:=fun ps st=>match body (ps.map some ++ List.replicate (nl - ps.length) none) st with
  | .rt v st'=>.ok v st'
  | .nx _ st'=>.ok .non st'
  | .exc x st'=>.exc x st'
  | _=>.stuck
section
variable {P : Program} {w : World} {K : PySem.W.Frag} {mg : Str -> Option Value} {base : Heap}
theorem fun_okK {x qual : Str} {st : Stmt} {f : Addr} {fd : FuncData} {N ps : List Str} {k : Nat} {m : MS} (F : Fun K x qual st f fd) (S : FnScope N ps (defScope st))
    (hb : ∀ (cdv : Value) (A : Around) (outer : List PySem.Env) (s : Shared) (H : Hp) (E : XK),Room k (A.deeper (PyProof.Rows.envOfC qual (defScope st) s.heap.objs.size f cdv)) -> SimB (cxD P w K mg base N qual (defScope st) f cdv A outer s H E) E (defBody st) m) :
    FnOk P w K mg base (CXD P w) (k + 1) f fd ps (spF mg ps.length (callK m N.length)):=by
  refine Fun.okD F S (fun vs H Q E h=>h.1) fun cdv A outer s H vs Q E hr hsp=>⟨_,pss_w,?_⟩
  obtain ⟨hl,ρ,st0,pvs,R,rl,hA⟩:=hsp
  refine (hb cdv A outer s H E hr).run _ (L2.start N vs) H ρ st0 _ R (start_env rl) ?_
  unfold callK at hA
  cases rr : m (pvs.map some ++ List.replicate (N.length - pvs.length) none) st0 with
  | rt v st1=>rw [rr] at hA; exact fun v H' ρ' x R' r=>hA H' ρ' x R' v r
  | nx Γ st1=>rw [rr] at hA; exact fun σ' H' ρ' x' R' G'=>hA H' ρ' x' R' .non rfl
  | bk Γ st1=>rw [rr] at hA; exact hA.elim
  | ct Γ st1=>rw [rr] at hA; exact hA.elim
  | stuck=>rw [rr] at hA; exact hA.elim
  | exc y st1=>rw [rr] at hA; exact hA
end
theorem fun_ok2K {P : Program} {w : World} {K : PySem.W.Frag} {mg : Str -> Option Value} {base : Heap} {x qual : Str} {st : Stmt} {f : Addr} {fd : FuncData} {N ps : List Str} {k n nl : Nat} {m : MS} {FF : FN} (F : Fun K x qual st f fd) (S : FnScope N ps (defScope st)) (hn : ps.length = n) (hnl : N.length = nl) (hF : FF = callK m nl)
    (hb : ∀ (cdv : Value) (A : Around) (outer : List PySem.Env) (s : Shared) (H : Hp) (E : XK),Room k (A.deeper (PyProof.Rows.envOfC qual (defScope st) s.heap.objs.size f cdv)) -> SimB (cxD P w K mg base N qual (defScope st) f cdv A outer s H E) E (defBody st) m) :
    FnOk P w K mg base (CXD P w) (k + 1) f fd ps (spF mg n FF):=by
  subst hn; subst hnl; subst hF
  exact fun_okK F S hb
end Sm
namespace Sm
open PySem PySem.Spec PyProof.Rows L2
section
variable {X : Cx} {E : XK} {pos : Pos} {a b : Expr} {ma mb : ME}
end
end Sm
namespace Sm
open PySem PySem.Spec L2
section
variable {X : Cx} {E : XK} {pos : Pos} {e : Expr} {m : ME}
end
section
end
section
variable {X : Cx} {E : XK} {pos dpos : Pos} {e1 e2 e3 i : Expr} {m1 m2 m3 mi : ME} {k1 k2 k3 : Str} {j1 j2 j3 : Nat} {q1 q2 q3 : Pos}
end
section
variable {X : Cx} {E : XK} {pos : Pos} {e : Expr} {m : ME}
end
end Sm
namespace Sm
open PySem PySem.Spec L2
section
variable {X : Cx} {E : XK}
end
end Sm
namespace Sm
open PySem PySem.Spec L2
section
variable {H0 H : Hp} {ρ0 ρ : Tk} {st : Store} {a : Addr} {ps : List (Key × PV)} {vs : List (Key × V)}
end
section
variable {X : Cx} {E : XK} {pos dpos apos cpos : Pos} {e e1 e2 e3 i o f : Expr} {m m1 m2 m3 mi mo mf : ME} {k1 k2 k3 : Str} {j1 j2 j3 : Nat} {q1 q2 q3 : Pos}
end
end Sm
namespace Sm
open PySem PySem.Spec L2
section
variable {X : Cx} {E : XK} {pos dpos tpos : Pos} {e i o k : Expr} {m mi mo mk : ME}
end
end Sm
namespace Sm
open PySem PySem.Spec L2
section
variable {X : Cx} {E : XK} {pos dpos tpos : Pos} {e i o k : Expr} {m mi mo mk : ME} {tg : Expr}
end
end Sm
namespace Sm
open PySem PySem.Spec L2
section
variable {X : Cx} {E : XK}
end
end Sm
namespace Sm
open PySem PySem.Spec PyProof.Rows L2
section
variable {X : Cx} {E : XK}
end
end Sm
namespace Sm
open PySem PySem.Spec L2
section
variable {X : Cx} {E : XK} {pos apos tp : Pos} {e : Expr} {m : ME} {elts : List Expr} {kt : Nat}
end
end Sm
namespace Sm
open PySem PySem.Spec L2
section
variable {X : Cx} {E : XK} {pos dpos tpos : Pos} {e i o k : Expr} {m mi mo mk : ME}
end
end Sm
namespace Sm
open PySem PySem.Spec L2
section
variable {X : Cx} {E : XK}
end
end Sm
namespace Sm
open PySem PySem.Spec L2
section
variable {X : Cx} {E : XK} {a : Expr} {ma : ME} {pos : Pos}
end
end Sm
namespace Sm
open PySem PySem.Spec L2 SeqAt
section
variable {X : Cx} {E : XK}
variable {o : Expr} {mo : ME} {apos cpos : Pos}
end
end Sm
namespace Sm
open PySem PySem.Spec L2 SeqAt
section
variable {X : Cx} {E : XK}
variable {e o i : Expr} {m mo mi : ME} {pos tpos : Pos}
end
end Sm
namespace L2
open PySem PySem.Spec PyProof.Rows
end L2
namespace Sm
open PySem PySem.Spec PyProof.Rows L2
section
variable {X : Cx} {E : XK} {pos : Pos} {e : Expr} {m : ME}
end
end Sm
namespace Sm
open PySem PySem.Spec PyProof.Rows L2
def rangeS (lo c : Int) (n : Nat) : List PV:=(List.range n).map fun (k : Nat)=>PV.int (lo + (k : Int) * c)
theorem rangeS_len (lo c : Int) (n : Nat) : (rangeS lo c n).length = n:=by unfold rangeS; rw [List.length_map,List.length_range]
theorem src_range3 {H : Hp} {ρ : Tk} {lo c : Int} {n : Nat} : Src (Itrs lo c n) (rangeS lo c n) [] H ρ:=by
  have hl:=rangeS_len lo c n
  refine ⟨fun H2 ρ2 st2 x R ok=>?_,fun H2 ρ2 st2 x R ok i hi=>?_,fun H2 ρ2 st2 x R ok i p hp y H3 hy=>?_⟩
  · show n <= (rangeS lo c n).length
    omega
  · show i < n
    omega
  · obtain ⟨rfl,rfl⟩:=hy
    have hi : i < n:=by rw [<- hl]; exact (List.getElem?_eq_some_iff.mp hp).1
    unfold rangeS at hp
    rw [List.getElem?_map,List.getElem?_range hi] at hp
    cases hp
    exact ⟨Same.refl _,rfl⟩
def mRange3 (mr : ML) : MI:=fun Γ st=>(mr Γ st).bind fun ps st1=>match ps with
  | [.int i,.int j,.int c]=>if c ≠ 0 /\ -1000000 <= i /\ i <= 1000000 /\ -1000000 <= j /\ j <= 1000000 /\ -1000000 <= c /\ c <= 1000000 then .ok (rangeS i c (rsz i j c),[]) st1 else .stuck
  | _=>.stuck
theorem repL_three {H : Hp} {ρ : Tk} {p q r : PV} {xs : List V} (h : RepL H ρ [p,q,r] xs) : ∃ v u t,xs = [v,u,t] /\ Rep H ρ p v /\ Rep H ρ q u /\ Rep H ρ r t:=by
  obtain ⟨v,t,rfl,h1,h2⟩:=h
  obtain ⟨u,t,rfl,h3,h4⟩:=repL_two h2
  exact ⟨v,u,t,rfl,h1,h3,h4⟩
section
variable {X : Cx} {E : XK} {tg : Expr} {a b c : Expr} {mr : ML} {p pos : Pos}
theorem si_range3 (hg : Gl X "range") (hm : X.mg "range" = none) (ha : SimA X E [a,b,c] mr) (hs : starEach [a,b,c] X.env = [(false,eval a X.env),(false,eval b X.env),(false,eval c X.env)]:=by rfl) (hs2 : starEach [b,c] X.env = [(false,eval b X.env),(false,eval c X.env)]:=by rfl) : SimI X E tg (.Call (.Name "range" p) [a,b,c] [] pos) (mRange3 mr):=⟨fun Γ σ H ρ st P R' R G h k=>by
  refine WI.of (pi_range3 hg hm pa_w hs hs2) (ha.use' R G h.bind fun ps st1 H1 ρ1 vs eq x1 R1 G1 r1 h1=>?_)
  split at h1
  · rename_i i j c
    split at h1
    · rename_i hj
      obtain ⟨v,u,t,rfl,rv,ru,rt⟩:=repL_three r1
      cases rv; cases ru; cases rt
      refine ⟨i,j,c,rfl,hj,k (rangeS i c (rsz i j c),[]) st1 H1 ρ1 _ (by simp only [mRange3,eq,Res.bind,if_pos hj]) x1 R1 G1 (wOk_nil _) ?_ src_range3 (h1 H1 ρ1 (Ext.refl _ _) R1)⟩
      show (rangeS i c (rsz i j c)).length <= sizeLine
      rw [rangeS_len]
      have:=rsz_le (a:=i) (b:=j) hj.1 (M:=2000000) (by omega) (by omega) (by omega)
      have q:=rsz_nn i j c
      exact Nat.le_trans (show rsz i j c <= 2000000 by unfold rsz; omega) (by decide)
    · exact h1.elim
  · exact h1.elim⟩
end
theorem mRange3_eq (mr : ML) (Γ : Gam) (st : Store) : mRange3 mr Γ st = (mr Γ st).bind fun ps st1=>(match ps with | [.int i,.int j,.int c]=>if c ≠ 0 /\ -1000000 <= i /\ i <= 1000000 /\ -1000000 <= j /\ j <= 1000000 /\ -1000000 <= c /\ c <= 1000000 then .ok (rangeS i c (rsz i j c),[]) st1 else .stuck | _=>.stuck):=rfl
end Sm
namespace Sm
open PySem PySem.Spec L2
section
variable {X : Cx} {E : XK} {o : Expr} {mo : ME} {apos cpos : Pos} {to : TE}
end
end Sm
namespace Sm
open PySem PySem.Spec L2
structure DefX (P : Program) (w : World) (K : PySem.W.Frag) (mg : Str -> Option Value) (base : Heap) (k : Nat) (x : Str) (ps : List Str) (sp : Sp) : Prop where
  ex : ∃ (f : Addr) (fd : FuncData),FnOk P w K mg base (CXD P w) k f fd ps sp /\ mg x = some (.ref f) /\ PySem.W.keepIn K (.ref f) = true /\ Binds K fd ps []
theorem same_add {H0 H : Hp} (h : Same H0 H) {p : Addr} {o : HO} (hp : H p = none) : Same H0 (upd H p o):=fun b u e=>by
  have:=h b u e
  rw [upd_ne fun z=>by rw [z,hp] at this; cases this]; exact this
structure Nms (mg : Str -> Option Value) (c : Nat -> Addr) : Prop where
  m0 : mg "WharfError" = some (.ref (c 0))
  m1 : mg "NoTable" = some (.ref (c 1))
  m2 : mg "NoHouse" = some (.ref (c 2))
  m3 : mg "NoDeed" = some (.ref (c 3))
  m4 : mg "NoLetter" = some (.ref (c 4))
  m5 : mg "NoStand" = some (.ref (c 5))
  m6 : mg "NoRoad" = some (.ref (c 6))
  m7 : mg "NoPlan" = some (.ref (c 7))
  m8 : mg "NoBook" = some (.ref (c 8))
  m9 : mg "NoManner" = some (.ref (c 9))
  m10 : mg "TooMany" = some (.ref (c 10))
  m11 : mg "NoText" = some (.ref (c 11))
  m12 : mg "NoRow" = some (.ref (c 12))
  m13 : mg "NoName" = some (.ref (c 13))
  m14 : mg "Short" = some (.ref (c 14))
  ve : mg "ValueError" = none
  isi : mg "isinstance" = none
structure TgtS (K : PySem.W.Frag) (c : Nat -> Addr) (t : Nat) : Prop where
  xc : XCls K (c t)
  ve : PySem.W.kitOne K (.ref (c t)) (.type "ValueError") = some true
  ex : PySem.W.exmOne K (.ref (c t)) (.ref (c 0)) = some true
  k : ∀ i,1 <= i -> i <= 14 -> PySem.W.kitOne K (.ref (c t)) (.ref (c i)) = some (decide (i = t))
theorem boot_ValueError : bootBuiltins "ValueError" = some (.type "ValueError"):=by decide +kernel
theorem keepE {H : Hp} {e p : Addr} {v o : HO} (h : H e = some v) (hp : H p = none) : upd H p o e = some v:=by
  rw [upd_ne fun z=>by rw [z,hp] at h; cases h]; exact h
theorem noB (bs : List Bool) (j : Nat) (h : (bs.take j).all (fun b=>!b) = true) (hl : j <= bs.length) : ∀ m,m < j -> bs[m]? = some false:=fun m hm=>by
  have hb : m < bs.length:=by omega
  have:=List.all_eq_true.mp h (bs[m]) (List.mem_take_iff_getElem.mpr ⟨m,by omega,rfl⟩)
  rw [List.getElem?_eq_getElem hb]
  cases q : bs[m] with
  | false=>rfl
  | true=>rw [q] at this; cases this
section
variable {X : Cx}
def tStrs (ss : List Str) : TA:=fun σ H Q=>Q (ss.map V.str) H
theorem pa_strs : ∀ (l : List (Str × Nat × Pos)),PA X (l.map fun p=>Expr.Constant (.str p.1) p.2.1 p.2.2) (tStrs (l.map (·.1)))
  | []=>fun pos pins s σ H Q I h=>pa_nil pos pins s σ H Q I h
  | (x,j,p) :: l=>fun pos pins s σ H Q I h=>pa_cons (e:=.Constant (.str x) j p) pe_str (pa_strs l) rfl pos pins s σ H Q I h
theorem pa_strsE (ss : List Str) (l : List (Nat × Pos)) {es : List Expr} (h : es = (ss.zip l).map (fun p=>Expr.Constant (.str p.1) p.2.1 p.2.2)) (hl : ss.length = l.length:=by rfl) : PA X es (tStrs ss):=by
  have e : ((ss.zip l).map fun p=>((p.1,p.2.1,p.2.2) : Str × Nat × Pos)).map (fun p=>Expr.Constant (.str p.1) p.2.1 p.2.2) = es:=by rw [h,List.map_map]; rfl
  have e2 : ((ss.zip l).map fun p=>((p.1,p.2.1,p.2.2) : Str × Nat × Pos)).map (·.1) = ss:=by
    rw [List.map_map]
    show (ss.zip l).map Prod.fst = ss
    exact List.map_fst_zip (by omega)
  have:=pa_strs (X:=X) ((ss.zip l).map fun p=>(p.1,p.2.1,p.2.2))
  rw [e,e2] at this
  exact this
end
end Sm
namespace Sm
open PySem PySem.Spec L2
section
variable {H : Hp} {ρ : Tk}
end
section
variable {X : Cx} {E : XK} {o e : Expr} {es : List Expr} {mo m : ME} {mr : Gam -> Store -> Res (List PV)} {C : Addr} {f : Str} {pos pos' apos p : Pos}
end
end Sm
namespace Sm
open PySem PySem.Spec L2
section
variable {X : Cx} {E : XK}
end
end Sm
namespace Sm
open PySem PySem.Spec L2
section
variable {X : Cx} {E : XK} {pos : Pos} {e : Expr} {m : ME}
end
section
end
end Sm
namespace Sm
open PySem PySem.Spec L2
section
variable {X : Cx} {E : XK}
end
end Sm
namespace Sm
open PySem PySem.Spec L2
abbrev tryCx (X : Cx) (pins : List (Addr × Obj)) (E : XK) : Cx:={ X with pn:=X.pn ++ pins,xe:=fun v s'=>∃ σ1 H1 s1,Inv X pins σ1 H1 s1 /\ CXD X.prog X.w X.stack H1 s1 E v s' }
section
variable {X : Cx} {pins pins' : List (Addr × Obj)} {E : XK} {σ : St} {H : Hp} {s : Shared}
theorem tryIn (I : Inv X pins σ H s) : Inv (tryCx X pins E) [] σ H s:=
  ⟨⟨I.ok.mod,I.ok.kind,I.ok.glob,I.ok.blt,I.ok.above,I.ok.inj,I.ok.has,I.ok.cab,I.ok.hd,I.ok.frames,I.ok.stk,I.ok.exf,I.ok.bs,I.ok.bsz,I.ok.noex,I.ok.exfs,I.ok.funs,I.ok.frf⟩,I.os,I.bare,I.base,I.loc,I.cell,I.free,I.freeC,fun p hp=>I.pin p (by simpa using hp),I.hok,I.len⟩
theorem tryOut (I : Inv (tryCx X pins E) pins' σ H s) : Inv X pins σ H s:=
  ⟨⟨I.ok.mod,I.ok.kind,I.ok.glob,I.ok.blt,I.ok.above,I.ok.inj,I.ok.has,I.ok.cab,I.ok.hd,I.ok.frames,I.ok.stk,I.ok.exf,I.ok.bs,I.ok.bsz,I.ok.noex,I.ok.exfs,I.ok.funs,I.ok.frf⟩,I.os,I.bare,I.base,I.loc,I.cell,I.free,I.freeC,fun p hp=>I.pin p (List.mem_append_left _ hp),I.hok,I.len⟩
theorem pass_try : Passes (CXD X.prog X.w) (tryCx X pins E) E:=fun _ σ H s _ _ I h=>⟨σ,H,s,tryOut I,h⟩
end
theorem repL_3' {H : Hp} {ρ : Tk} {ps : List PV} {a b c : V} (r : RepL H ρ ps [a,b,c]) : ∃ p q t,ps = [p,q,t] /\ Rep H ρ p a /\ Rep H ρ q b /\ Rep H ρ t c:=by
  have l:=r.length
  match ps,l with
  | [p,q,t],_=>
    obtain ⟨_,_,e,h1,_,_,e2,h2,_,_,e3,h3,_⟩:=r
    cases e; cases e2; cases e3
    exact ⟨p,q,t,rfl,h1,h2,h3⟩
def tryE (X : Cx) (CC : Addr) (i L : Nat) (ts : Addr -> TS) (D : Ends) : XK:=fun cls dv H'=>∃ C,cls = .ref C /\ PySem.W.exmOne X.K cls (.ref CC) = some true /\ ∀ a,H' a = none -> ∀ σ1 : St,σ1.length = L -> ts a { nx:=fun σ3 H3=>D.nx (σ3.set i none) H3,rt:=D.rt } (σ1.set i (some (.ref a))) (upd H' a (.ext (IsXD a C dv)))
section
variable {X : Cx} {body : List Stmt} {mb : MS} {cn n : Str} {i : Nat} {CC : Addr} {np hpos pos : Pos} {b₀ : Stmt} {suite : List Stmt} {ts : Addr -> TS} {Γ : Gam} {σ : St} {H : Hp} {ρ : Tk} {st : Store} {D : Ends}
theorem try_run (hb : ∀ pins E,SimB (tryCx X pins E) E body mb) (hN : X.N.Nodup) (hi : X.N[i]? = some n) (hk : X.env.scope.names.lookup n = some .local) (hsuite : ∀ a,PSs (suiteCx X a) (b₀ :: suite) (ts a)) (hcm : X.mg cn = some (.ref CC)) (hgc : Gl X cn) (hex : ∀ b,b ∉ X.ex) (hst : X.stack = X.env :: X.outer) (hfr : X.env.frame = some X.env.locals) (hdbc : (cn == ("__debug__" : Str)) = false)
    (R : Rel H ρ st) (G : EnvR H ρ Γ σ) (h : AccS X.mg (tryE X CC i σ.length ts D) D H ρ (mb Γ st)) : WS X (.Try body [.ExceptHandler (some (.Name cn np)) (some n) (b₀ :: suite) hpos] [] [] pos) D σ H:=fun pins s I=>by
  refine wpAny_Try_except (wpAny_mono ((hb pins _).run Γ σ H ρ st D R G h [] s (tryIn I)) (fun f s' hf=>?_) fun v s' hv=>?_)
  · cases f with
    | next=>
      obtain ⟨σ',H',I',q⟩:=hf
      exact wpAny_execs_nil ⟨σ',H',tryOut I',q⟩
    | brk=>
      obtain ⟨σ',H',I',q⟩:=hf
      exact ⟨σ',H',tryOut I',q⟩
    | cont=>
      obtain ⟨σ',H',I',q⟩:=hf
      exact ⟨σ',H',tryOut I',q⟩
    | ret u=>
      obtain ⟨v,σ',H',I',r,q⟩:=hf
      exact ⟨v,σ',H',tryOut I',r,q⟩
  · obtain ⟨σ1,H1,s1,I1,a,cls,a0,dv,H',B,rfl,Fl,dd,C,rfl,hok,q⟩:=hv
    exact handleR hN hi hk hex hst hfr hgc hcm hok I1 Fl dd (hsuite a) (q a Fl.new.2 σ1 (I1.len.trans I.len.symm)) hdbc
end
section
variable {X : Cx} {E : XK}
end
def mStub : MS:=fun _ _=>.stuck
theorem sb_stub {X : Cx} {E : XK} {ss : List Stmt} : SimB X E ss mStub:=⟨fun _ _ _ _ _ _ _ _ h=>h.elim⟩
end Sm
namespace Sm
open PySem PySem.Spec PyProof.Rows L2
section
variable {X : Cx} {E : XK}
end
end Sm
namespace Sm
open PySem PySem.Spec L2
structure AtS (K : PySem.W.Frag) (mg : Str -> Option Value) (name : Str) (st : Stmt) (ps : List Str) (f : Addr) (fd : FuncData) : Prop where
  F : Fun K name name st f fd
  m : mg name = some (.ref f)
  b : Binds K fd ps []
theorem atS_mk {K : PySem.W.Frag} {mg : Str -> Option Value} {h : Heap} {name : Str} {st : Stmt} {ps : List Str} {f : Addr} {oc : Value} {od an : Option Addr} {osl : Array (Option Value)} {kV doc pm cdv ct : Value} (X : K.In h) (G : h.Ns mainGlobals mg)
    (a : PySem.W.nsIn K mainGlobals name = some (some (.ref f))) (l : K.lookup f = some ⟨oc,od,.func (PySem.W.fnOf name name (defArgs st) (defBody st) (defScope st) .none kV doc pm an cdv ct),osl⟩) (c : PySem.W.codeIn K cdv name = true) (k : PySem.W.keepIn K (.ref f) = true)
    (b : ∀ (kV doc pm : Value) (an : Option Addr) (cdv ct : Value) (us : List Value),us.length = ps.length -> bindArgs (PySem.W.fnOf name name (defArgs st) (defBody st) (defScope st) .none kV doc pm an cdv ct) ⟨us,[]⟩ = pure (ps.zip us)) :
    AtS K mg name st ps f (PySem.W.fnOf name name (defArgs st) (defBody st) (defScope st) .none kV doc pm an cdv ct):=
  have F:=fun_mk (st:=st) l c k
  ⟨F,PySem.W.mg_of X G a,F.binds b⟩
theorem AtS.def {P : Program} {w : World} {K : PySem.W.Frag} {mg : Str -> Option Value} {base : Heap} {name : Str} {st : Stmt} {ps : List Str} {f : Addr} {fd : FuncData} {k n : Nat} {F : FN} (a : AtS K mg name st ps f fd) (hn : ps.length = n) (G : FnOk P w K mg base (CXD P w) k f fd ps (spF mg n F)) : DefS P w K mg base k name n F:=
  ⟨f,fd,ps,G,a.m,a.F.kp,a.b,hn⟩
theorem AtS.defX {P : Program} {w : World} {K : PySem.W.Frag} {mg : Str -> Option Value} {base : Heap} {name : Str} {st : Stmt} {ps : List Str} {f : Addr} {fd : FuncData} {k : Nat} {sp : Sp} (a : AtS K mg name st ps f fd) (G : FnOk P w K mg base (CXD P w) k f fd ps sp) : DefX P w K mg base k name ps sp:=⟨f,fd,G,a.m,a.F.kp,a.b⟩
def FL (K : PySem.W.Frag) (x ql : Str) (s : Stmt) (f : Addr) : Prop:=∃ (oc : Value) (od : Option Addr) (kV dc pm : Value) (an : Option Addr) (cd ct : Value) (sl : Array (Option Value)),K.lookup f = some ⟨oc,od,.func (PySem.W.fnOf x ql (defArgs s) (defBody s) (defScope s) .none kV dc pm an cd ct),sl⟩ /\ PySem.W.codeIn K cd ql = true /\ PySem.W.keepIn K (.ref f) = true
theorem FL.fn {K : PySem.W.Frag} {x ql : Str} {s : Stmt} {f : Addr} (h : FL K x ql s f) : ∃ fd,Fun K x ql s f fd:=let ⟨_,_,_,_,_,_,_,_,_,l,c,k⟩:=h; ⟨_,fun_mk l c k⟩
def FA (K : PySem.W.Frag) (x : Str) (s : Stmt) (f : Addr) : Prop:=PySem.W.nsIn K mainGlobals x = some (some (.ref f)) /\ FL K x x s f
theorem FA.mk {K : PySem.W.Frag} {x : Str} {s : Stmt} {f : Addr} {oc : Value} {od an : Option Addr} {sl : Array (Option Value)} {kV dc pm cd ct : Value} (a : PySem.W.nsIn K mainGlobals x = some (some (.ref f))) (l : K.lookup f = some ⟨oc,od,.func (PySem.W.fnOf x x (defArgs s) (defBody s) (defScope s) .none kV dc pm an cd ct),sl⟩) (c : PySem.W.codeIn K cd x = true) (k : PySem.W.keepIn K (.ref f) = true) : FA K x s f:=⟨a,_,_,_,_,_,_,_,_,_,l,c,k⟩
theorem ln1 {α : Type} {l : List α} (h : l.length = 1) : ∃ a,l = [a]:=match l,h with | [_],_=>⟨_,rfl⟩
theorem ln2 {α : Type} {l : List α} (h : l.length = 2) : ∃ a b,l = [a,b]:=match l,h with | [_,_],_=>⟨_,_,rfl⟩
theorem ln3 {α : Type} {l : List α} (h : l.length = 3) : ∃ a b c,l = [a,b,c]:=match l,h with | [_,_,_],_=>⟨_,_,_,rfl⟩
theorem ln4 {α : Type} {l : List α} (h : l.length = 4) : ∃ a b c d,l = [a,b,c,d]:=match l,h with | [_,_,_,_],_=>⟨_,_,_,_,rfl⟩
theorem ln5 {α : Type} {l : List α} (h : l.length = 5) : ∃ a b c d e,l = [a,b,c,d,e]:=match l,h with | [_,_,_,_,_],_=>⟨_,_,_,_,_,rfl⟩
theorem FL.bd {K : PySem.W.Frag} {x ql : Str} {s : Stmt} {f : Addr} {ps : List Str} (h : FL K x ql s f)
    (b : ∀ (kV doc pm : Value) (an : Option Addr) (cdv ct : Value) (us : List Value),us.length = ps.length -> bindArgs (PySem.W.fnOf x ql (defArgs s) (defBody s) (defScope s) .none kV doc pm an cdv ct) ⟨us,[]⟩ = pure (ps.zip us)) : ∃ fd,Fun K x ql s f fd /\ Binds K fd ps []:=
  let ⟨_,F⟩:=h.fn
  ⟨_,F,F.binds b⟩
theorem atS2 {K : PySem.W.Frag} {mg : Str -> Option Value} {h : Heap} {name : Str} {st : Stmt} {f : Addr} (ps : List Str) (X : K.In h) (G : h.Ns mainGlobals mg) (a : FA K name st f)
    (b : ∀ (kV doc pm : Value) (an : Option Addr) (cdv ct : Value) (us : List Value),us.length = ps.length -> bindArgs (PySem.W.fnOf name name (defArgs st) (defBody st) (defScope st) .none kV doc pm an cdv ct) ⟨us,[]⟩ = pure (ps.zip us):=by
      intro _ _ _ _ _ _ us hl
      first | (obtain ⟨_,rfl⟩:=ln1 hl; rfl) | (obtain ⟨_,_,rfl⟩:=ln2 hl; rfl) | (obtain ⟨_,_,_,rfl⟩:=ln3 hl; rfl) | (obtain ⟨_,_,_,_,rfl⟩:=ln4 hl; rfl) | (obtain ⟨_,_,_,_,_,rfl⟩:=ln5 hl; rfl)) : ∃ fd,AtS K mg name st ps f fd:=
  let ⟨a,l⟩:=a
  let ⟨_,F,B⟩:=l.bd b
  ⟨_,F,PySem.W.mg_of X G a,B⟩
theorem AtS.d {K : PySem.W.Frag} {mg : Str -> Option Value} {name : Str} {st : Stmt} {ps : List Str} {f : Addr} {fd : FuncData} {k n : Nat} {F : FN} (a : AtS K mg name st ps f fd) (P : Program) (w : World) (base : Heap) (hn : ps.length = n) (G : FnOk P w K mg base (CXD P w) k f fd ps (spF mg n F)) : DefS P w K mg base k name n F:=a.def hn G
def noL (K : PySem.W.Frag) : Bool:=K.all fun p=>match p.2.data with
  | .seq _ _=>(match p.2.cls with
    | .type n=>!(n == ("list" : Str))
    | _=>true)
  | _=>true
theorem lookup_mem {K : PySem.W.Frag} {a : Addr} {o : Obj} (h : K.lookup a = some o) : (a,o) ∈ K:=by
  induction K with
  | nil=>cases h
  | cons p K ih=>
    obtain ⟨b,u⟩:=p
    rw [List.lookup_cons] at h
    cases e : a == b with
    | true=>
      rw [e] at h
      have : a = b:=by simpa using e
      subst this
      cases h
      exact List.mem_cons_self
    | false=>
      rw [e] at h
      exact List.mem_cons_of_mem _ (ih h)
theorem noL_no {K : PySem.W.Frag} {a : Addr} {o : Obj} {its : Array Value} {n : Nat} (hL : noL K = true) (h : K.lookup a = some o) (hc : o.cls = .type "list") (hd : o.data = .seq its n) : False:=by
  have:=List.all_eq_true.mp hL _ (lookup_mem h)
  simp [hc,hd] at this
theorem repL_ints {H : Hp} {ρ : Tk} : ∀ ns : List Int,RepL H ρ (ns.map .int) (ns.map V.int)
  | []=>rfl
  | n :: ns=>⟨_,_,rfl,rfl,repL_ints ns⟩
theorem rel_nil (H : Hp) : Rel H Tk.nil []:=⟨rfl,List.nodup_nil,fun a h=>(by cases h),fun a h=>(by cases h),fun i a c h=>(by simp [Tk.nil] at h)⟩
def spLawS (K : PySem.W.Frag) : Sp:=fun vs H Q _=>∃ (a : Addr) (ns : List Int),vs = [.ref a] /\ SqL K H a (ns.map V.int) /\ ns.length <= 63 /\ ∀ H',Q (.bl true) H'
theorem law_imp {P : Program} {w : World} {K : PySem.W.Frag} {mg : Str -> Option Value} {base : Heap} {CX : CXT} {k : Nat} {f : Addr} {fd : FuncData} {ps : List Str} {FL : FN} (hL : noL K = true) (F : FnOk P w K mg base CX k f fd ps (spF mg 1 FL)) (hlaw : ∀ ns : List Int,ns.length <= 63 -> ∃ st',FL [.fro (ns.map .int)] [] = .ok (.bl true) st') : FnOk P w K mg base CX k f fd ps (spLawS K):=F.imp fun vs H Q E ⟨a,ns,e,hS,hl,hQ⟩=>by
  subst e
  obtain ⟨st',hF⟩:=hlaw ns hl
  have hR : Rd H a (.lst (ns.map V.int)):=by
    rcases hS with h | ⟨o,its,n,h1,h2,h3,h4,_⟩
    · exact h
    · exact (noL_no hL h1 h2 h4).elim
  refine ⟨rfl,Tk.nil,[],[.fro (ns.map .int)],rel_nil H,⟨_,_,rfl,⟨a,_,rfl,hR,Tk.not_nil a,repL_ints ns⟩,rfl⟩,?_⟩
  rw [hF]
  intro H' ρ' x R v r
  have e : v = .bl true:=r
  subst e
  exact hQ H'
theorem cxd_none {P : Program} {w : World} {H : Hp} {s : Shared} {e : Value} {s' : Shared} (h : CXD P w [] H s (fun _ _ _=>False) e s') : False:=by
  obtain ⟨_,_,_,_,_,_,_,_,_,z⟩:=h
  exact z
theorem walkS {l : PySem.W.OpenLaw} {k : Nat} {q : Program} {loose : List Str} {XP : (Str -> Option Value) -> Heap -> Prop} {YP : World -> Heap -> Prop} {d : DefRec} {K : Params -> PySem.W.Frag} (hn : l.most = some 63) (hr : Room k callerA) (hdf : d.params.defaults = [])
    (hY : ∀ (w : World) (h : Heap),YP w h -> (K w.params).In h)
    (F : ∀ (w : World) (mg : Str -> Option Value) (fa : Addr) (h : Heap),(K w.params).In h -> h.Ns mainGlobals mg -> mg d.name = some (.ref fa) ->
      ∃ fd : FuncData,(∀ (s : Shared) (u : Value),BindsTo s fd ⟨[u],[]⟩ [("script",u)]) /\ ∀ base : Heap,(K w.params).In base -> base.Ns mainGlobals mg -> FnOk l.prog w (K w.params) mg base (CXD l.prog w) k fa fd ["script"] (spLawS (K w.params))) :
    PySem.W.WalkO q loose XP YP l.row.toRowW d [] (fun f vs=>PySem.call f vs):=
  L2.walk_of (n:=63) (k:=k) (x := "script") (CX:=fun w=>CXD l.prog w) (sp:=fun w=>spLawS (K w.params)) hn (by decide) hdf hr hY F (fun _ _ a ns hl _ hS=>⟨a,ns,rfl,hS,hl,fun _=>rfl⟩) fun _ _ _ _ _ z=>cxd_none z
end Sm
namespace Lw
open PySem PySem.Spec L2 Sm
def top (i : Nat) : Stmt:=PySem.Challenge.pw_lendwharf_k46_cuts_weighed.main.body.getD i (.Pass ⟨0,0,0,0⟩)
abbrev s_is_whole : Stmt:=top 17
abbrev s_is_between : Stmt:=top 18
abbrev s_is_rising : Stmt:=top 19
abbrev s_is_sized_tuple : Stmt:=top 20
abbrev s_is_road : Stmt:=top 22
abbrev s_behind_round : Stmt:=top 23
abbrev s_is_start : Stmt:=top 29
abbrev s_is_road_with_most : Stmt:=top 30
abbrev s_are_roads_of_one_round : Stmt:=top 31
abbrev s_are_roads_of_plan : Stmt:=top 32
abbrev s_is_place : Stmt:=top 33
abbrev s_is_taking : Stmt:=top 34
abbrev s_are_takings : Stmt:=top 35
abbrev s_is_question : Stmt:=top 36
abbrev s_need_question : Stmt:=top 37
abbrev s_loads_of : Stmt:=top 38
abbrev s_most_by : Stmt:=top 39
abbrev s_do_roads_bear : Stmt:=top 40
abbrev s_are_served : Stmt:=top 41
abbrev s_behind_takings : Stmt:=top 42
abbrev s_do_houses_have : Stmt:=top 43
abbrev s_is_plan : Stmt:=top 44
abbrev s_is_cut : Stmt:=top 45
abbrev s_weight_of_round : Stmt:=top 46
abbrev s_weight : Stmt:=top 47
abbrev s_ways_of : Stmt:=top 50
abbrev s_ways_by_end : Stmt:=top 51
abbrev s_other_end : Stmt:=top 52
abbrev s_reached : Stmt:=top 53
abbrev s_steps_back : Stmt:=top 54
abbrev s_room_by : Stmt:=top 55
abbrev s_serve : Stmt:=top 56
abbrev s_moves_by : Stmt:=top 57
abbrev s_all_served : Stmt:=top 58
abbrev s_best : Stmt:=top 59
abbrev s_first_served : Stmt:=top 60
abbrev s__law_acell : Stmt:=top 62
abbrev s__law_atape : Stmt:=top 63
abbrev s__law_adigit : Stmt:=top 64
abbrev s__law_awhole : Stmt:=top 65
abbrev s__law_akind : Stmt:=top 66
abbrev s__law_ahow : Stmt:=top 67
abbrev s__law_aquestion : Stmt:=top 68
abbrev s__law_aweight : Stmt:=top 69
abbrev s__law_acut : Stmt:=top 70
abbrev s__law_acaught : Stmt:=top 71
abbrev s__law_ano_cuts : Stmt:=top 72
abbrev s_law : Stmt:=top 73
structure Txt (mg : Str -> Option Value) : Prop where
  b_all : mg "all" = none
  b_any : mg "any" = none
  b_bool : mg "bool" = none
  b_enumerate : mg "enumerate" = none
  b_int : mg "int" = none
  b_isinstance : mg "isinstance" = none
  b_len : mg "len" = none
  b_list : mg "list" = none
  b_max : mg "max" = none
  b_min : mg "min" = none
  b_range : mg "range" = none
  b_sorted : mg "sorted" = none
  b_sum : mg "sum" = none
  b_tuple : mg "tuple" = none
  b_zip : mg "zip" = none
  c_MOST_HOUSES_OF_PLAN : ∃ t,mg "MOST_HOUSES_OF_PLAN" = some (.int 6 t)
  c_MOST_ROUNDS_OF_PLAN : ∃ t,mg "MOST_ROUNDS_OF_PLAN" = some (.int 10 t)
  c_MOST_TAKINGS : ∃ t,mg "MOST_TAKINGS" = some (.int 20 t)
  c_MOST_AT_ONCE : ∃ t,mg "MOST_AT_ONCE" = some (.int 1000000 t)
section
variable {P : Program} {w : World} {K : PySem.W.Frag} {mg : Str -> Option Value} {base : Heap}
end
section
variable {P : Program} {w : World} {K : PySem.W.Frag} {mg : Str -> Option Value} {base : Heap}
def m_is_whole : MS:=(mRet (mAnd (mIsI "int" (mVar 0)) (mNot (mIsI "bool" (mVar 0)))))
def F_is_whole : FN:=callF m_is_whole 1
theorem sc_is_whole : FnScope ["thing"] ["thing"] (defScope s_is_whole):=⟨rfl,rfl,rfl,by decide +kernel,rfl,by decide +kernel,by decide +kernel⟩
theorem ok_is_whole {f : Addr} {fd : FuncData} (F : Fun K "is_whole" "is_whole" s_is_whole f fd) (T : Txt mg)   : FnOk P w K mg base (CXD P w) 1 f fd ["thing"] (spF mg 1 F_is_whole):=by
  refine fun_ok2 (k:=0) (m:=m_is_whole) F sc_is_whole rfl rfl rfl fun cdv A outer s H E hr=>?_
  exact (sb_one (ss_ret (se_and (se_isi (T := "int") (by decide) (se_var 0) rfl T.b_isinstance rfl T.b_int boot_int) (se_one (se_not (se_isi (T := "bool") (by decide) (se_var 0) rfl T.b_isinstance rfl T.b_bool boot_bool))))))
def m_is_between : MS:=(mRet (mAnd (mCallF 1 F_is_whole (mCons (mVar 0) mNil)) (mChain (oI fun a b=>.bl (decide (a <= b))) (oI fun a b=>.bl (decide (a <= b))) (mVar 1) (mVar 0) (mVar 2))))
def F_is_between : FN:=callF m_is_between 3
theorem sc_is_between : FnScope ["thing", "least", "most"] ["thing", "least", "most"] (defScope s_is_between):=⟨rfl,rfl,rfl,by decide +kernel,rfl,by decide +kernel,by decide +kernel⟩
theorem ok_is_between {f : Addr} {fd : FuncData} (F : Fun K "is_between" "is_between" s_is_between f fd) (T : Txt mg)  (D_is_whole : DefS P w K mg base 1 "is_whole" 1 F_is_whole) : FnOk P w K mg base (CXD P w) 2 f fd ["thing", "least", "most"] (spF mg 3 F_is_between):=by
  refine fun_ok2 (k:=1) (m:=m_is_between) F sc_is_between rfl rfl rfl fun cdv A outer s H E hr=>?_
  exact (sb_one (ss_ret (se_and (se_call D_is_whole (hr.mono (by decide)) pass_onD rfl (sa_cons (se_var 0) sa_nil)) (se_one (se_chain os_le os_le (se_var 1) (se_var 0) (se_var 2))))))
def e_is_rising_1 : ME:=(mOp oLt (mVar 0) (mVar 1))
def m_is_rising : MS:=(mRet (mCall (cBls fun ns=>.bl (ns.all id)) (mCons (mVal (mCompN [none,none] (gaTup (gaCons (gaName 0) (gaCons (gaName 1) gaNil))) (mZip (mCons (mVar 0) (mCons (mSl (mVar 0) (mPart (mC (.int 1))) mNoPart) mNil))) mTrue e_is_rising_1)) mNil)))
def F_is_rising : FN:=callF m_is_rising 1
theorem sc_is_rising : FnScope ["things"] ["things"] (defScope s_is_rising):=⟨rfl,rfl,rfl,by decide +kernel,rfl,by decide +kernel,by decide +kernel⟩
theorem ok_is_rising {f : Addr} {fd : FuncData} (F : Fun K "is_rising" "is_rising" s_is_rising f fd) (T : Txt mg)   : FnOk P w K mg base (CXD P w) 1 f fd ["things"] (spF mg 1 F_is_rising):=by
  refine fun_ok2 (k:=0) (m:=m_is_rising) F sc_is_rising rfl rfl rfl fun cdv A outer s H E hr=>?_
  exact (sb_one (ss_ret (se_callB (cs_all rfl) rfl T.b_all boot_all (sa_cons (se_val (sn_comp [none,none] ["one", "other"] rfl (si_zip rfl T.b_zip (sa_cons (se_var 0) (sa_cons (se_slice (se_var 0) (so_some se_int) so_none) sa_nil))) (fun _ _ _ _ _=>(sg_tup rfl (sgs_cons (sg_name (i:=0) (show (["one", "other"] : List Str).Nodup by decide +kernel)) (sgs_cons (sg_name (i:=1) (show (["one", "other"] : List Str).Nodup by decide +kernel)) sgs_nil)))) (fun _ _ _ _ _=>(se_cmp (os_lt hr.units) (se_var 0) (se_var 1))) (fun _ _ _ _ _=>sts_nil) (free_tup (free_cons (free_cons free_nil))))) sa_nil))))
def m_is_sized_tuple : MS:=(mRet (mAnd (mIsI "tuple" (mVar 0)) (mChain (oI fun a b=>.bl (decide (a <= b))) (oI fun a b=>.bl (decide (a <= b))) (mVar 1) (mCall cLen (mCons (mVar 0) mNil)) (mVar 2))))
def F_is_sized_tuple : FN:=callF m_is_sized_tuple 3
theorem sc_is_sized_tuple : FnScope ["thing", "least", "most"] ["thing", "least", "most"] (defScope s_is_sized_tuple):=⟨rfl,rfl,rfl,by decide +kernel,rfl,by decide +kernel,by decide +kernel⟩
theorem ok_is_sized_tuple {f : Addr} {fd : FuncData} (F : Fun K "is_sized_tuple" "is_sized_tuple" s_is_sized_tuple f fd) (T : Txt mg)   : FnOk P w K mg base (CXD P w) 1 f fd ["thing", "least", "most"] (spF mg 3 F_is_sized_tuple):=by
  refine fun_ok2 (k:=0) (m:=m_is_sized_tuple) F sc_is_sized_tuple rfl rfl rfl fun cdv A outer s H E hr=>?_
  exact (sb_one (ss_ret (se_and (se_isi (T := "tuple") (by decide) (se_var 0) rfl T.b_isinstance rfl T.b_tuple boot_tuple) (se_one (se_chain os_le os_le (se_var 1) (se_callB cs_len rfl T.b_len PySem.boot_len (sa_cons (se_var 0) sa_nil)) (se_var 2))))))
def e_is_road_1 : ME:=(mCallF 3 F_is_between (mCons (mVar 0) (mCons (mC (.int 0)) (mCons (mOp (oI fun a b=>.int (a - b)) (mVar 1) (mC (.int 1))) mNil))))
def m_is_road : MS := (mSeqS (mIfS (tOrM (tNotM (toB (mIsI "tuple" (mVar 1)))) (toB (mOp oNe (mCall cLen (mCons (mVar 1) mNil)) (mC (.int 2))))) (mRet (mC (.bl false))) mNext)
    (mRet (mAnd (mCall (cBls fun ns=>.bl (ns.all id)) (mCons (mVal (mCompN [none,some 0] (gaName 0) (mSeq (mVar 1)) mTrue e_is_road_1)) mNil)) (mOp oNe (mOp oIx (mVar 1) (mC (.int 0))) (mOp oIx (mVar 1) (mC (.int 1)))))))
def F_is_road : FN:=callF m_is_road 2
theorem sc_is_road : FnScope ["n", "thing"] ["n", "thing"] (defScope s_is_road):=⟨rfl,rfl,rfl,by decide +kernel,rfl,by decide +kernel,by decide +kernel⟩
theorem ok_is_road {f : Addr} {fd : FuncData} (F : Fun K "is_road" "is_road" s_is_road f fd) (T : Txt mg)  (D_is_between : DefS P w K mg base 2 "is_between" 3 F_is_between) : FnOk P w K mg base (CXD P w) 3 f fd ["n", "thing"] (spF mg 2 F_is_road):=by
  refine fun_ok2 (k:=2) (m:=m_is_road) F sc_is_road rfl rfl rfl fun cdv A outer s H E hr=>?_
  exact (sb_cons (ss_if (SimW.t (sw_or (st_not (st_val (se_isi (T := "tuple") (by decide) (se_var 1) rfl T.b_isinstance rfl T.b_tuple boot_tuple))) (sw_or1 (st_cmp (os_ne hr.units) (se_callB cs_len rfl T.b_len PySem.boot_len (sa_cons (se_var 1) sa_nil)) se_int)))) (sb_one (ss_ret se_bl)) sb_nil)
    (sb_one (ss_ret (se_and (se_callB (cs_all rfl) rfl T.b_all boot_all (sa_cons (se_val (sn_comp [none,some 0] ["house", "n"] rfl (si_seq (se_var 1)) (fun _ _ _ _ _=>(sg_name (i:=0) (show (["house", "n"] : List Str).Nodup by decide +kernel))) (fun _ _ _ _ _=>(se_call D_is_between (hr.mono (by decide)) pass00D rfl (sa_cons (se_var 0) (sa_cons se_int (sa_cons (se_op os_sub (se_var 1) se_int) sa_nil))))) (fun _ _ _ _ _=>sts_nil) free_name)) sa_nil)) (se_one (se_cmp (os_ne hr.units) (se_ix (se_var 1) se_int) (se_ix (se_var 1) se_int)))))))
def m_behind_round : MS:=mStub
def F_behind_round : FN:=callF m_behind_round 7
theorem sc_behind_round : FnScope ["has", "moves", "left", "number", "i", "j", "k"] ["has", "moves"] (defScope s_behind_round):=⟨rfl,rfl,rfl,by decide +kernel,rfl,by decide +kernel,by decide +kernel⟩
theorem ok_behind_round {f : Addr} {fd : FuncData} (F : Fun K "behind_round" "behind_round" s_behind_round f fd) (T : Txt mg)   : FnOk P w K mg base (CXD P w) 1 f fd ["has", "moves"] (spF mg 2 F_behind_round):=by
  refine fun_ok2 (k:=0) (m:=m_behind_round) F sc_behind_round rfl rfl rfl fun cdv A outer s H E hr=>?_
  exact sb_stub
def e_is_start_1 : ME:=(mCallF 3 F_is_between (mCons (mVar 0) (mCons (mC (.int 0)) (mCons (mC (.int 1000000)) mNil))))
def m_is_start : MS := (mSeqS (mIfS (tNotM (toB (mCallF 3 F_is_sized_tuple (mCons (mVar 0) (mCons (mC (.int 1)) (mCons (mC (.int 6)) mNil)))))) (mRet (mC (.bl false))) mNext)
    (mRet (mCall (cBls fun ns=>.bl (ns.all id)) (mCons (mVal (mCompN [none] (gaName 0) (mSeq (mVar 0)) mTrue e_is_start_1)) mNil))))
def F_is_start : FN:=callF m_is_start 1
theorem sc_is_start : FnScope ["thing"] ["thing"] (defScope s_is_start):=⟨rfl,rfl,rfl,by decide +kernel,rfl,by decide +kernel,by decide +kernel⟩
theorem ok_is_start {f : Addr} {fd : FuncData} (F : Fun K "is_start" "is_start" s_is_start f fd) (T : Txt mg)  (D_is_sized_tuple : DefS P w K mg base 1 "is_sized_tuple" 3 F_is_sized_tuple) (D_is_between : DefS P w K mg base 2 "is_between" 3 F_is_between) : FnOk P w K mg base (CXD P w) 3 f fd ["thing"] (spF mg 1 F_is_start):=by
  refine fun_ok2 (k:=2) (m:=m_is_start) F sc_is_start rfl rfl rfl fun cdv A outer s H E hr=>?_
  exact (sb_cons (ss_if (st_not (st_val (se_call D_is_sized_tuple (hr.mono (by decide)) pass_onD rfl (sa_cons (se_var 0) (sa_cons se_int (sa_cons (se_gint rfl T.c_MOST_HOUSES_OF_PLAN.choose_spec) sa_nil)))))) (sb_one (ss_ret se_bl)) sb_nil)
    (sb_one (ss_ret (se_callB (cs_all rfl) rfl T.b_all boot_all (sa_cons (se_val (sn_comp [none] ["part"] rfl (si_seq (se_var 0)) (fun _ _ _ _ _=>(sg_name (i:=0) (show (["part"] : List Str).Nodup by decide +kernel))) (fun _ _ _ _ _=>(se_call D_is_between (hr.mono (by decide)) pass00D rfl (sa_cons (se_var 0) (sa_cons se_int (sa_cons (se_gint rfl T.c_MOST_AT_ONCE.choose_spec) sa_nil))))) (fun _ _ _ _ _=>sts_nil) free_name)) sa_nil)))))
def m_is_road_with_most : MS:=(mRet (mAnd (mCallF 3 F_is_sized_tuple (mCons (mVar 1) (mCons (mC (.int 3)) (mCons (mC (.int 3)) mNil)))) (mAnd (mCallF 2 F_is_road (mCons (mVar 0) (mCons (mSl (mVar 1) mNoPart (mPart (mC (.int 2)))) mNil))) (mCallF 3 F_is_between (mCons (mOp oIx (mVar 1) (mC (.int 2))) (mCons (mC (.int 1)) (mCons (mC (.int 1000000)) mNil)))))))
def F_is_road_with_most : FN:=callF m_is_road_with_most 2
theorem sc_is_road_with_most : FnScope ["n", "thing"] ["n", "thing"] (defScope s_is_road_with_most):=⟨rfl,rfl,rfl,by decide +kernel,rfl,by decide +kernel,by decide +kernel⟩
theorem ok_is_road_with_most {f : Addr} {fd : FuncData} (F : Fun K "is_road_with_most" "is_road_with_most" s_is_road_with_most f fd) (T : Txt mg)  (D_is_sized_tuple : DefS P w K mg base 1 "is_sized_tuple" 3 F_is_sized_tuple) (D_is_road : DefS P w K mg base 3 "is_road" 2 F_is_road) (D_is_between : DefS P w K mg base 2 "is_between" 3 F_is_between) : FnOk P w K mg base (CXD P w) 4 f fd ["n", "thing"] (spF mg 2 F_is_road_with_most):=by
  refine fun_ok2 (k:=3) (m:=m_is_road_with_most) F sc_is_road_with_most rfl rfl rfl fun cdv A outer s H E hr=>?_
  exact (sb_one (ss_ret (se_and (se_call D_is_sized_tuple (hr.mono (by decide)) pass_onD rfl (sa_cons (se_var 1) (sa_cons se_int (sa_cons se_int sa_nil)))) (se_and (se_call D_is_road (hr.mono (by decide)) pass_onD rfl (sa_cons (se_var 0) (sa_cons (se_slice (se_var 1) so_none (so_some se_int)) sa_nil))) (se_one (se_call D_is_between (hr.mono (by decide)) pass_onD rfl (sa_cons (se_ix (se_var 1) se_int) (sa_cons se_int (sa_cons (se_gint rfl T.c_MOST_AT_ONCE.choose_spec) sa_nil)))))))))
def e_are_roads_of_one_round_1 : ME:=(mCallF 2 F_is_road_with_most (mCons (mVar 1) (mCons (mVar 0) mNil)))
def e_are_roads_of_one_round_2 : ME:=(mSl (mVar 0) mNoPart (mPart (mC (.int 2))))
def m_are_roads_of_one_round : MS := (mSeqS (mIfS (tOrM (tNotM (toB (mIsI "tuple" (mVar 1)))) (tNotM (toB (mCall (cBls fun ns => .bl (ns.all id)) (mCons (mVal (mCompN [none, some 0] (gaName 0) (mSeq (mVar 1)) mTrue e_are_roads_of_one_round_1)) mNil))))) (mRet (mC (.bl false))) mNext)
    (mRet (mCallF 1 F_is_rising (mCons (mVal (mCompN [none] (gaName 0) (mSeq (mVar 1)) mTrue e_are_roads_of_one_round_2)) mNil))))
def F_are_roads_of_one_round : FN:=callF m_are_roads_of_one_round 2
theorem sc_are_roads_of_one_round : FnScope ["n", "thing"] ["n", "thing"] (defScope s_are_roads_of_one_round):=⟨rfl,rfl,rfl,by decide +kernel,rfl,by decide +kernel,by decide +kernel⟩
theorem ok_are_roads_of_one_round {f : Addr} {fd : FuncData} (F : Fun K "are_roads_of_one_round" "are_roads_of_one_round" s_are_roads_of_one_round f fd) (T : Txt mg)  (D_is_road_with_most : DefS P w K mg base 4 "is_road_with_most" 2 F_is_road_with_most) (D_is_rising : DefS P w K mg base 1 "is_rising" 1 F_is_rising) : FnOk P w K mg base (CXD P w) 5 f fd ["n", "thing"] (spF mg 2 F_are_roads_of_one_round):=by
  refine fun_ok2 (k:=4) (m:=m_are_roads_of_one_round) F sc_are_roads_of_one_round rfl rfl rfl fun cdv A outer s H E hr=>?_
  exact (sb_cons (ss_if (SimW.t (sw_or (st_not (st_val (se_isi (T := "tuple") (by decide) (se_var 1) rfl T.b_isinstance rfl T.b_tuple boot_tuple))) (sw_or1 (st_not (st_val (se_callB (cs_all rfl) rfl T.b_all boot_all (sa_cons (se_val (sn_comp [none,some 0] ["road", "n"] rfl (si_seq (se_var 1)) (fun _ _ _ _ _=>(sg_name (i:=0) (show (["road", "n"] : List Str).Nodup by decide +kernel))) (fun _ _ _ _ _=>(se_call D_is_road_with_most (hr.mono (by decide)) pass00D rfl (sa_cons (se_var 1) (sa_cons (se_var 0) sa_nil)))) (fun _ _ _ _ _=>sts_nil) free_name)) sa_nil))))))) (sb_one (ss_ret se_bl)) sb_nil)
    (sb_one (ss_ret (se_call D_is_rising (hr.mono (by decide)) pass_onD rfl (sa_cons (se_val (sn_comp [none] ["road"] rfl (si_seq (se_var 1)) (fun _ _ _ _ _=>(sg_name (i:=0) (show (["road"] : List Str).Nodup by decide +kernel))) (fun _ _ _ _ _=>(se_slice (se_var 0) so_none (so_some se_int))) (fun _ _ _ _ _=>sts_nil) free_name)) sa_nil)))))
def e_are_roads_of_plan_1 : ME:=(mCallF 2 F_are_roads_of_one_round (mCons (mVar 1) (mCons (mVar 0) mNil)))
def m_are_roads_of_plan : MS:=(mRet (mAnd (mCallF 3 F_is_sized_tuple (mCons (mVar 1) (mCons (mC (.int 0)) (mCons (mC (.int 10)) mNil)))) (mCall (cBls fun ns=>.bl (ns.all id)) (mCons (mVal (mCompN [none,some 0] (gaName 0) (mSeq (mVar 1)) mTrue e_are_roads_of_plan_1)) mNil))))
def F_are_roads_of_plan : FN:=callF m_are_roads_of_plan 2
theorem sc_are_roads_of_plan : FnScope ["n", "thing"] ["n", "thing"] (defScope s_are_roads_of_plan):=⟨rfl,rfl,rfl,by decide +kernel,rfl,by decide +kernel,by decide +kernel⟩
theorem ok_are_roads_of_plan {f : Addr} {fd : FuncData} (F : Fun K "are_roads_of_plan" "are_roads_of_plan" s_are_roads_of_plan f fd) (T : Txt mg)  (D_is_sized_tuple : DefS P w K mg base 1 "is_sized_tuple" 3 F_is_sized_tuple) (D_are_roads_of_one_round : DefS P w K mg base 5 "are_roads_of_one_round" 2 F_are_roads_of_one_round) : FnOk P w K mg base (CXD P w) 6 f fd ["n", "thing"] (spF mg 2 F_are_roads_of_plan):=by
  refine fun_ok2 (k:=5) (m:=m_are_roads_of_plan) F sc_are_roads_of_plan rfl rfl rfl fun cdv A outer s H E hr=>?_
  exact (sb_one (ss_ret (se_and (se_call D_is_sized_tuple (hr.mono (by decide)) pass_onD rfl (sa_cons (se_var 1) (sa_cons se_int (sa_cons (se_gint rfl T.c_MOST_ROUNDS_OF_PLAN.choose_spec) sa_nil)))) (se_one (se_callB (cs_all rfl) rfl T.b_all boot_all (sa_cons (se_val (sn_comp [none,some 0] ["part", "n"] rfl (si_seq (se_var 1)) (fun _ _ _ _ _=>(sg_name (i:=0) (show (["part", "n"] : List Str).Nodup by decide +kernel))) (fun _ _ _ _ _=>(se_call D_are_roads_of_one_round (hr.mono (by decide)) pass00D rfl (sa_cons (se_var 1) (sa_cons (se_var 0) sa_nil)))) (fun _ _ _ _ _=>sts_nil) free_name)) sa_nil))))))
def m_is_place : MS:=(mRet (mAnd (mCallF 3 F_is_between (mCons (mVar 2) (mCons (mC (.int 0)) (mCons (mOp (oI fun a b=>.int (a - b)) (mVar 0) (mC (.int 1))) mNil)))) (mCallF 3 F_is_between (mCons (mVar 3) (mCons (mC (.int 0)) (mCons (mVar 1) mNil))))))
def F_is_place : FN:=callF m_is_place 4
theorem sc_is_place : FnScope ["n", "rounds", "house", "moment"] ["n", "rounds", "house", "moment"] (defScope s_is_place):=⟨rfl,rfl,rfl,by decide +kernel,rfl,by decide +kernel,by decide +kernel⟩
theorem ok_is_place {f : Addr} {fd : FuncData} (F : Fun K "is_place" "is_place" s_is_place f fd) (T : Txt mg)  (D_is_between : DefS P w K mg base 2 "is_between" 3 F_is_between) : FnOk P w K mg base (CXD P w) 3 f fd ["n", "rounds", "house", "moment"] (spF mg 4 F_is_place):=by
  refine fun_ok2 (k:=2) (m:=m_is_place) F sc_is_place rfl rfl rfl fun cdv A outer s H E hr=>?_
  exact (sb_one (ss_ret (se_and (se_call D_is_between (hr.mono (by decide)) pass_onD rfl (sa_cons (se_var 2) (sa_cons se_int (sa_cons (se_op os_sub (se_var 0) se_int) sa_nil)))) (se_one (se_call D_is_between (hr.mono (by decide)) pass_onD rfl (sa_cons (se_var 3) (sa_cons se_int (sa_cons (se_var 1) sa_nil))))))))
def m_is_taking : MS := (mSeqS (mIfS (tOrM (tNotM (toB (mCallF 3 F_is_sized_tuple (mCons (mVar 2) (mCons (mC (.int 3)) (mCons (mC (.int 3)) mNil)))))) (tNotM (toB (mCallF 4 F_is_place (mCons (mVar 0) (mCons (mVar 1) (mCons (mOp oIx (mVar 2) (mC (.int 1))) (mCons (mOp oIx (mVar 2) (mC (.int 0))) mNil)))))))) (mRet (mC (.bl false))) mNext)
    (mRet (mCallF 3 F_is_between (mCons (mOp oIx (mVar 2) (mC (.int 2))) (mCons (mC (.int 1)) (mCons (mC (.int 1000000)) mNil))))))
def F_is_taking : FN:=callF m_is_taking 3
theorem sc_is_taking : FnScope ["n", "rounds", "thing"] ["n", "rounds", "thing"] (defScope s_is_taking):=⟨rfl,rfl,rfl,by decide +kernel,rfl,by decide +kernel,by decide +kernel⟩
theorem ok_is_taking {f : Addr} {fd : FuncData} (F : Fun K "is_taking" "is_taking" s_is_taking f fd) (T : Txt mg)  (D_is_sized_tuple : DefS P w K mg base 1 "is_sized_tuple" 3 F_is_sized_tuple) (D_is_place : DefS P w K mg base 3 "is_place" 4 F_is_place) (D_is_between : DefS P w K mg base 2 "is_between" 3 F_is_between) : FnOk P w K mg base (CXD P w) 4 f fd ["n", "rounds", "thing"] (spF mg 3 F_is_taking):=by
  refine fun_ok2 (k:=3) (m:=m_is_taking) F sc_is_taking rfl rfl rfl fun cdv A outer s H E hr=>?_
  exact (sb_cons (ss_if (SimW.t (sw_or (st_not (st_val (se_call D_is_sized_tuple (hr.mono (by decide)) pass_onD rfl (sa_cons (se_var 2) (sa_cons se_int (sa_cons se_int sa_nil)))))) (sw_or1 (st_not (st_val (se_call D_is_place (hr.mono (by decide)) pass_onD rfl (sa_cons (se_var 0) (sa_cons (se_var 1) (sa_cons (se_ix (se_var 2) se_int) (sa_cons (se_ix (se_var 2) se_int) sa_nil)))))))))) (sb_one (ss_ret se_bl)) sb_nil)
    (sb_one (ss_ret (se_call D_is_between (hr.mono (by decide)) pass_onD rfl (sa_cons (se_ix (se_var 2) se_int) (sa_cons se_int (sa_cons (se_gint rfl T.c_MOST_AT_ONCE.choose_spec) sa_nil)))))))
def e_are_takings_1 : ME:=(mCallF 3 F_is_taking (mCons (mVar 1) (mCons (mVar 2) (mCons (mVar 0) mNil))))
def m_are_takings : MS:=(mRet (mAnd (mCallF 3 F_is_sized_tuple (mCons (mVar 2) (mCons (mC (.int 0)) (mCons (mC (.int 20)) mNil)))) (mCall (cBls fun ns=>.bl (ns.all id)) (mCons (mVal (mCompN [none,some 0,some 1] (gaName 0) (mSeq (mVar 2)) mTrue e_are_takings_1)) mNil))))
def F_are_takings : FN:=callF m_are_takings 3
theorem sc_are_takings : FnScope ["n", "rounds", "thing"] ["n", "rounds", "thing"] (defScope s_are_takings):=⟨rfl,rfl,rfl,by decide +kernel,rfl,by decide +kernel,by decide +kernel⟩
theorem ok_are_takings {f : Addr} {fd : FuncData} (F : Fun K "are_takings" "are_takings" s_are_takings f fd) (T : Txt mg)  (D_is_sized_tuple : DefS P w K mg base 1 "is_sized_tuple" 3 F_is_sized_tuple) (D_is_taking : DefS P w K mg base 4 "is_taking" 3 F_is_taking) : FnOk P w K mg base (CXD P w) 5 f fd ["n", "rounds", "thing"] (spF mg 3 F_are_takings):=by
  refine fun_ok2 (k:=4) (m:=m_are_takings) F sc_are_takings rfl rfl rfl fun cdv A outer s H E hr=>?_
  exact (sb_one (ss_ret (se_and (se_call D_is_sized_tuple (hr.mono (by decide)) pass_onD rfl (sa_cons (se_var 2) (sa_cons se_int (sa_cons (se_gint rfl T.c_MOST_TAKINGS.choose_spec) sa_nil)))) (se_one (se_callB (cs_all rfl) rfl T.b_all boot_all (sa_cons (se_val (sn_comp [none,some 0,some 1] ["part", "n", "rounds"] rfl (si_seq (se_var 2)) (fun _ _ _ _ _=>(sg_name (i:=0) (show (["part", "n", "rounds"] : List Str).Nodup by decide +kernel))) (fun _ _ _ _ _=>(se_call D_is_taking (hr.mono (by decide)) pass00D rfl (sa_cons (se_var 1) (sa_cons (se_var 2) (sa_cons (se_var 0) sa_nil))))) (fun _ _ _ _ _=>sts_nil) free_name)) sa_nil))))))
def m_is_question : MS := (mSeqS (mIfS (tOrM (tNotM (toB (mCallF 3 F_is_sized_tuple (mCons (mVar 0) (mCons (mC (.int 3)) (mCons (mC (.int 3)) mNil)))))) (tNotM (toB (mCallF 1 F_is_start (mCons (mOp oIx (mVar 0) (mC (.int 0))) mNil))))) (mRet (mC (.bl false))) mNext)
    (mSeqS (mSet 1 (mCall cLen (mCons (mOp oIx (mVar 0) (mC (.int 0))) mNil)))
    (mRet (mAnd (mCallF 2 F_are_roads_of_plan (mCons (mVar 1) (mCons (mOp oIx (mVar 0) (mC (.int 1))) mNil))) (mCallF 3 F_are_takings (mCons (mVar 1) (mCons (mCall cLen (mCons (mOp oIx (mVar 0) (mC (.int 1))) mNil)) (mCons (mOp oIx (mVar 0) (mC (.int 2))) mNil))))))))
def F_is_question : FN:=callF m_is_question 2
theorem sc_is_question : FnScope ["thing", "n"] ["thing"] (defScope s_is_question):=⟨rfl,rfl,rfl,by decide +kernel,rfl,by decide +kernel,by decide +kernel⟩
theorem ok_is_question {f : Addr} {fd : FuncData} (F : Fun K "is_question" "is_question" s_is_question f fd) (T : Txt mg)  (D_is_sized_tuple : DefS P w K mg base 1 "is_sized_tuple" 3 F_is_sized_tuple) (D_is_start : DefS P w K mg base 3 "is_start" 1 F_is_start) (D_are_roads_of_plan : DefS P w K mg base 6 "are_roads_of_plan" 2 F_are_roads_of_plan) (D_are_takings : DefS P w K mg base 5 "are_takings" 3 F_are_takings) : FnOk P w K mg base (CXD P w) 7 f fd ["thing"] (spF mg 1 F_is_question):=by
  refine fun_ok2 (k:=6) (m:=m_is_question) F sc_is_question rfl rfl rfl fun cdv A outer s H E hr=>?_
  exact (sb_cons (ss_if (SimW.t (sw_or (st_not (st_val (se_call D_is_sized_tuple (hr.mono (by decide)) pass_onD rfl (sa_cons (se_var 0) (sa_cons se_int (sa_cons se_int sa_nil)))))) (sw_or1 (st_not (st_val (se_call D_is_start (hr.mono (by decide)) pass_onD rfl (sa_cons (se_ix (se_var 0) se_int) sa_nil))))))) (sb_one (ss_ret se_bl)) sb_nil)
    (sb_cons (ss_set 1 sc_is_question.nd (se_callB cs_len rfl T.b_len PySem.boot_len (sa_cons (se_ix (se_var 0) se_int) sa_nil)))
    (sb_one (ss_ret (se_and (se_call D_are_roads_of_plan (hr.mono (by decide)) pass_onD rfl (sa_cons (se_var 1) (sa_cons (se_ix (se_var 0) se_int) sa_nil))) (se_one (se_call D_are_takings (hr.mono (by decide)) pass_onD rfl (sa_cons (se_var 1) (sa_cons (se_callB cs_len rfl T.b_len PySem.boot_len (sa_cons (se_ix (se_var 0) se_int) sa_nil)) (sa_cons (se_ix (se_var 0) se_int) sa_nil))))))))))
def m_need_question : MS:=(mIfS (tNotM (toB (mCallF 1 F_is_question (mCons (mVar 0) mNil)))) (mRaise "NoPlan" (mC (.str "this is no question of a plan"))) mNext)
def F_need_question : FN:=callF m_need_question 1
theorem sc_need_question : FnScope ["question"] ["question"] (defScope s_need_question):=⟨rfl,rfl,rfl,by decide +kernel,rfl,by decide +kernel,by decide +kernel⟩
theorem ok_need_question {f : Addr} {fd : FuncData} (F : Fun K "need_question" "need_question" s_need_question f fd) (T : Txt mg) (C_NoPlan : ∃ C,mg "NoPlan" = some (.ref C) /\ PySem.W.excIn K C bmVE "ValueError.__new__" = true) (D_is_question : DefS P w K mg base 7 "is_question" 1 F_is_question) : FnOk P w K mg base (CXD P w) 8 f fd ["question"] (spF mg 1 F_need_question):=by
  refine fun_ok2 (k:=7) (m:=m_need_question) F sc_need_question rfl rfl rfl fun cdv A outer s H E hr=>?_
  exact (sb_one (ss_if (st_not (st_val (se_call D_is_question (hr.mono (by decide)) pass_onD rfl (sa_cons (se_var 0) sa_nil)))) (sb_one (ss_raise rfl raiseDok rfl C_NoPlan.choose_spec.1 C_NoPlan.choose_spec.2 se_str)) sb_nil))
def m_loads_of : MS:=mStub
def F_loads_of : FN:=callF m_loads_of 6
theorem sc_loads_of : FnScope ["moves", "loads", "number", "i", "j", "k"] ["moves"] (defScope s_loads_of):=⟨rfl,rfl,rfl,by decide +kernel,rfl,by decide +kernel,by decide +kernel⟩
theorem ok_loads_of {f : Addr} {fd : FuncData} (F : Fun K "loads_of" "loads_of" s_loads_of f fd) (T : Txt mg)   : FnOk P w K mg base (CXD P w) 1 f fd ["moves"] (spF mg 1 F_loads_of):=by
  refine fun_ok2 (k:=0) (m:=m_loads_of) F sc_loads_of rfl rfl rfl fun cdv A outer s H E hr=>?_
  exact sb_stub
def m_most_by : MS:=mStub
def F_most_by : FN:=callF m_most_by 4
theorem sc_most_by : FnScope ["roads", "number", "i", "j"] ["roads", "number", "i", "j"] (defScope s_most_by):=⟨rfl,rfl,rfl,by decide +kernel,rfl,by decide +kernel,by decide +kernel⟩
theorem ok_most_by {f : Addr} {fd : FuncData} (F : Fun K "most_by" "most_by" s_most_by f fd) (T : Txt mg)   : FnOk P w K mg base (CXD P w) 1 f fd ["roads", "number", "i", "j"] (spF mg 4 F_most_by):=by
  refine fun_ok2 (k:=0) (m:=m_most_by) F sc_most_by rfl rfl rfl fun cdv A outer s H E hr=>?_
  exact sb_stub
def m_do_roads_bear : MS:=mStub
def F_do_roads_bear : FN:=callF m_do_roads_bear 2
theorem sc_do_roads_bear : FnScope ["roads", "moves"] ["roads", "moves"] (defScope s_do_roads_bear):=⟨rfl,rfl,rfl,by decide +kernel,rfl,by decide +kernel,by decide +kernel⟩
theorem ok_do_roads_bear {f : Addr} {fd : FuncData} (F : Fun K "do_roads_bear" "do_roads_bear" s_do_roads_bear f fd) (T : Txt mg)   : FnOk P w K mg base (CXD P w) 1 f fd ["roads", "moves"] (spF mg 2 F_do_roads_bear):=by
  refine fun_ok2 (k:=0) (m:=m_do_roads_bear) F sc_do_roads_bear rfl rfl rfl fun cdv A outer s H E hr=>?_
  exact sb_stub
def m_are_served : MS:=mStub
def F_are_served : FN:=callF m_are_served 2
theorem sc_are_served : FnScope ["takings", "served"] ["takings", "served"] (defScope s_are_served):=⟨rfl,rfl,rfl,by decide +kernel,rfl,by decide +kernel,by decide +kernel⟩
theorem ok_are_served {f : Addr} {fd : FuncData} (F : Fun K "are_served" "are_served" s_are_served f fd) (T : Txt mg)   : FnOk P w K mg base (CXD P w) 1 f fd ["takings", "served"] (spF mg 2 F_are_served):=by
  refine fun_ok2 (k:=0) (m:=m_are_served) F sc_are_served rfl rfl rfl fun cdv A outer s H E hr=>?_
  exact sb_stub
def m_behind_takings : MS:=mStub
def F_behind_takings : FN:=callF m_behind_takings 7
theorem sc_behind_takings : FnScope ["takings", "served", "has", "moment", "left", "taking", "amount"] ["takings", "served", "has", "moment"] (defScope s_behind_takings):=⟨rfl,rfl,rfl,by decide +kernel,rfl,by decide +kernel,by decide +kernel⟩
theorem ok_behind_takings {f : Addr} {fd : FuncData} (F : Fun K "behind_takings" "behind_takings" s_behind_takings f fd) (T : Txt mg)   : FnOk P w K mg base (CXD P w) 1 f fd ["takings", "served", "has", "moment"] (spF mg 4 F_behind_takings):=by
  refine fun_ok2 (k:=0) (m:=m_behind_takings) F sc_behind_takings rfl rfl rfl fun cdv A outer s H E hr=>?_
  exact sb_stub
def m_do_houses_have : MS:=mStub
def F_do_houses_have : FN:=callF m_do_houses_have 6
theorem sc_do_houses_have : FnScope ["question", "moves", "served", "has", "moment", "left"] ["question", "moves", "served"] (defScope s_do_houses_have):=⟨rfl,rfl,rfl,by decide +kernel,rfl,by decide +kernel,by decide +kernel⟩
theorem ok_do_houses_have {f : Addr} {fd : FuncData} (F : Fun K "do_houses_have" "do_houses_have" s_do_houses_have f fd) (T : Txt mg)   : FnOk P w K mg base (CXD P w) 1 f fd ["question", "moves", "served"] (spF mg 3 F_do_houses_have):=by
  refine fun_ok2 (k:=0) (m:=m_do_houses_have) F sc_do_houses_have rfl rfl rfl fun cdv A outer s H E hr=>?_
  exact sb_stub
def m_is_plan : MS := (mSeqS (mExpr (mCallF 1 F_need_question (mCons (mVar 0) mNil)))
    (mSeqS (mIfS (tOrM (tNotM (toB (mCallF 2 F_are_served (mCons (mOp oIx (mVar 0) (mC (.int 2))) (mCons (mOp oIx (mVar 1) (mC (.int 1))) mNil))))) (tNotM (toB (mCallF 2 F_do_roads_bear (mCons (mOp oIx (mVar 0) (mC (.int 1))) (mCons (mOp oIx (mVar 1) (mC (.int 0))) mNil)))))) (mRet (mC (.bl false))) mNext)
    (mRet (mCallF 3 F_do_houses_have (mCons (mVar 0) (mCons (mOp oIx (mVar 1) (mC (.int 0))) (mCons (mOp oIx (mVar 1) (mC (.int 1))) mNil)))))))
def F_is_plan : FN:=callF m_is_plan 2
theorem sc_is_plan : FnScope ["question", "plan"] ["question", "plan"] (defScope s_is_plan):=⟨rfl,rfl,rfl,by decide +kernel,rfl,by decide +kernel,by decide +kernel⟩
theorem ok_is_plan {f : Addr} {fd : FuncData} (F : Fun K "is_plan" "is_plan" s_is_plan f fd) (T : Txt mg)  (D_need_question : DefS P w K mg base 8 "need_question" 1 F_need_question) (D_are_served : DefS P w K mg base 1 "are_served" 2 F_are_served) (D_do_roads_bear : DefS P w K mg base 1 "do_roads_bear" 2 F_do_roads_bear) (D_do_houses_have : DefS P w K mg base 1 "do_houses_have" 3 F_do_houses_have) : FnOk P w K mg base (CXD P w) 9 f fd ["question", "plan"] (spF mg 2 F_is_plan):=by
  refine fun_ok2 (k:=8) (m:=m_is_plan) F sc_is_plan rfl rfl rfl fun cdv A outer s H E hr=>?_
  exact (sb_cons (ss_expr (se_call D_need_question (hr.mono (by decide)) pass_onD rfl (sa_cons (se_var 0) sa_nil)))
    (sb_cons (ss_if (SimW.t (sw_or (st_not (st_val (se_call D_are_served (hr.mono (by decide)) pass_onD rfl (sa_cons (se_ix (se_var 0) se_int) (sa_cons (se_ix (se_var 1) se_int) sa_nil))))) (sw_or1 (st_not (st_val (se_call D_do_roads_bear (hr.mono (by decide)) pass_onD rfl (sa_cons (se_ix (se_var 0) se_int) (sa_cons (se_ix (se_var 1) se_int) sa_nil)))))))) (sb_one (ss_ret se_bl)) sb_nil)
    (sb_one (ss_ret (se_call D_do_houses_have (hr.mono (by decide)) pass_onD rfl (sa_cons (se_var 0) (sa_cons (se_ix (se_var 1) se_int) (sa_cons (se_ix (se_var 1) se_int) sa_nil))))))))
def e_is_cut_1 : ME:=(mCallF 4 F_is_place (mCons (mVar 2) (mCons (mVar 3) (mCons (mVar 0) (mCons (mVar 1) mNil)))))
def e_is_cut_2 : ME:=(mOp (oIn false) (mTup (mCons (mVar 0) (mCons (mOp oAdd (mVar 1) (mC (.int 1))) mNil))) (mVar 2))
def t_is_cut_2 : MT:=(toB (mOp oLt (mVar 1) (mVar 3)))
def m_is_cut : MS := (mSeqS (mSet 2 (mCall cLen (mCons (mOp oIx (mVar 0) (mC (.int 0))) mNil)))
    (mSeqS (mSet 3 (mCall cLen (mCons (mOp oIx (mVar 0) (mC (.int 1))) mNil)))
    (mSeqS (mIfS (tOrM (tNotM (toB (mCall (cBls fun ns=>.bl (ns.all id)) (mCons (mVal (mCompN [none,none,some 2,some 3] (gaTup (gaCons (gaName 0) (gaCons (gaName 1) gaNil))) (mSeq (mVar 1)) mTrue e_is_cut_1)) mNil)))) (tNotM (toB (mCallF 1 F_is_rising (mCons (mVar 1) mNil))))) (mRet (mC (.bl false))) mNext)
    (mRet (mCall (cBls fun ns=>.bl (ns.all id)) (mCons (mVal (mCompN [none,none,some 1,some 3] (gaTup (gaCons (gaName 0) (gaCons (gaName 1) gaNil))) (mSeq (mVar 1)) t_is_cut_2 e_is_cut_2)) mNil))))))
def F_is_cut : FN:=callF m_is_cut 4
theorem sc_is_cut : FnScope ["question", "cut", "n", "rounds"] ["question", "cut"] (defScope s_is_cut):=⟨rfl,rfl,rfl,by decide +kernel,rfl,by decide +kernel,by decide +kernel⟩
theorem ok_is_cut {f : Addr} {fd : FuncData} (F : Fun K "is_cut" "is_cut" s_is_cut f fd) (T : Txt mg)  (D_is_place : DefS P w K mg base 3 "is_place" 4 F_is_place) (D_is_rising : DefS P w K mg base 1 "is_rising" 1 F_is_rising) : FnOk P w K mg base (CXD P w) 4 f fd ["question", "cut"] (spF mg 2 F_is_cut):=by
  refine fun_ok2 (k:=3) (m:=m_is_cut) F sc_is_cut rfl rfl rfl fun cdv A outer s H E hr=>?_
  exact (sb_cons (ss_set 2 sc_is_cut.nd (se_callB cs_len rfl T.b_len PySem.boot_len (sa_cons (se_ix (se_var 0) se_int) sa_nil)))
    (sb_cons (ss_set 3 sc_is_cut.nd (se_callB cs_len rfl T.b_len PySem.boot_len (sa_cons (se_ix (se_var 0) se_int) sa_nil)))
    (sb_cons (ss_if (SimW.t (sw_or (st_not (st_val (se_callB (cs_all rfl) rfl T.b_all boot_all (sa_cons (se_val (sn_comp [none,none,some 2,some 3] ["house", "moment", "n", "rounds"] rfl (si_seq (se_var 1)) (fun _ _ _ _ _=>(sg_tup rfl (sgs_cons (sg_name (i:=0) (show (["house", "moment", "n", "rounds"] : List Str).Nodup by decide +kernel)) (sgs_cons (sg_name (i:=1) (show (["house", "moment", "n", "rounds"] : List Str).Nodup by decide +kernel)) sgs_nil)))) (fun _ _ _ _ _=>(se_call D_is_place (hr.mono (by decide)) pass00D rfl (sa_cons (se_var 2) (sa_cons (se_var 3) (sa_cons (se_var 0) (sa_cons (se_var 1) sa_nil)))))) (fun _ _ _ _ _=>sts_nil) (free_tup (free_cons (free_cons free_nil))))) sa_nil)))) (sw_or1 (st_not (st_val (se_call D_is_rising (hr.mono (by decide)) pass_onD rfl (sa_cons (se_var 1) sa_nil))))))) (sb_one (ss_ret se_bl)) sb_nil)
    (sb_one (ss_ret (se_callB (cs_all rfl) rfl T.b_all boot_all (sa_cons (se_val (sn_comp [none,none,some 1,some 3] ["house", "moment", "cut", "rounds"] rfl (si_seq (se_var 1)) (fun _ _ _ _ _=>(sg_tup rfl (sgs_cons (sg_name (i:=0) (show (["house", "moment", "cut", "rounds"] : List Str).Nodup by decide +kernel)) (sgs_cons (sg_name (i:=1) (show (["house", "moment", "cut", "rounds"] : List Str).Nodup by decide +kernel)) sgs_nil)))) (fun _ _ _ _ _=>(se_cmp (os_in hr.units) (se_tup (sa_cons (se_var 0) (sa_cons (se_op os_add (se_var 1) se_int) sa_nil))) (se_var 2))) (fun _ _ _ _ _=>(sts_one (st_cmp (os_lt hr.units) (se_var 1) (se_var 3)))) (free_tup (free_cons (free_cons free_nil))))) sa_nil)))))))
def e_weight_of_round_1 : ME:=(mVar 0)
def t_weight_of_round_1 : MT:=(tAndM (toB (mOp (oIn false) (mTup (mCons (mOp oIx (mVar 0) (mC (.int 0))) (mCons (mVar 2) mNil))) (mVar 1))) (toB (mOp (oIn true) (mTup (mCons (mOp oIx (mVar 0) (mC (.int 1))) (mCons (mOp oAdd (mVar 2) (mC (.int 1))) mNil))) (mVar 1))))
def e_weight_of_round_2 : ME:=(mOp oIx (mVar 0) (mC (.int 2)))
def m_weight_of_round : MS := (mSeqS (mSet 3 (mVal (mCompN [none, some 1, some 2] (gaName 0) (mSeq (mVar 0)) t_weight_of_round_1 e_weight_of_round_1)))
    (mRet (mCall (cInts fun ns=>some (.int ns.sum)) (mCons (mVal (mCompN [none] (gaName 0) (mSeq (mVar 3)) mTrue e_weight_of_round_2)) mNil))))
def F_weight_of_round : FN:=callF m_weight_of_round 4
theorem sc_weight_of_round : FnScope ["roads", "cut", "number", "leading_out"] ["roads", "cut", "number"] (defScope s_weight_of_round):=⟨rfl,rfl,rfl,by decide +kernel,rfl,by decide +kernel,by decide +kernel⟩
theorem ok_weight_of_round {f : Addr} {fd : FuncData} (F : Fun K "weight_of_round" "weight_of_round" s_weight_of_round f fd) (T : Txt mg)   : FnOk P w K mg base (CXD P w) 1 f fd ["roads", "cut", "number"] (spF mg 3 F_weight_of_round):=by
  refine fun_ok2 (k:=0) (m:=m_weight_of_round) F sc_weight_of_round rfl rfl rfl fun cdv A outer s H E hr=>?_
  exact (sb_cons (by first | exact ss_compV [none,some 1,some 2] ["road", "cut", "number"] 3 sc_weight_of_round.nd rfl (si_seq (se_var 0)) (fun _ _ _ _ _=>(sg_name (i:=0) (show (["road", "cut", "number"] : List Str).Nodup by decide +kernel))) (fun _ _ _ _ _=>(se_var 0)) (fun _ _ _ _ _=>(sts_one (SimW.t (sw_and (st_cmp (os_in hr.units) (se_tup (sa_cons (se_ix (se_var 0) se_int) (sa_cons (se_var 2) sa_nil))) (se_var 1)) (sw_and1 (st_cmp (os_notin hr.units) (se_tup (sa_cons (se_ix (se_var 0) se_int) (sa_cons (se_op os_add (se_var 2) se_int) sa_nil))) (se_var 1))))))) free_name | exact ss_set 3 sc_weight_of_round.nd (se_val (sn_comp [none,some 1,some 2] ["road", "cut", "number"] rfl (si_seq (se_var 0)) (fun _ _ _ _ _=>(sg_name (i:=0) (show (["road", "cut", "number"] : List Str).Nodup by decide +kernel))) (fun _ _ _ _ _=>(se_var 0)) (fun _ _ _ _ _=>(sts_one (SimW.t (sw_and (st_cmp (os_in hr.units) (se_tup (sa_cons (se_ix (se_var 0) se_int) (sa_cons (se_var 2) sa_nil))) (se_var 1)) (sw_and1 (st_cmp (os_notin hr.units) (se_tup (sa_cons (se_ix (se_var 0) se_int) (sa_cons (se_op os_add (se_var 2) se_int) sa_nil))) (se_var 1))))))) free_name)))
    (sb_one (ss_ret (se_callB (cs_sum rfl) rfl T.b_sum boot_sum (sa_cons (se_val (sn_comp [none] ["road"] rfl (si_seq (se_var 3)) (fun _ _ _ _ _=>(sg_name (i:=0) (show (["road"] : List Str).Nodup by decide +kernel))) (fun _ _ _ _ _=>(se_ix (se_var 0) se_int)) (fun _ _ _ _ _=>sts_nil) free_name)) sa_nil)))))
def e_weight_1 : ME:=(mVar 1)
def t_weight_1 : MT:=(toB (mOp (oIn true) (mTup (mCons (mVar 0) (mCons (mC (.int 0)) mNil))) (mVar 2)))
def e_weight_2 : ME:=(mCallF 3 F_weight_of_round (mCons (mVar 1) (mCons (mVar 2) (mCons (mVar 0) mNil))))
def e_weight_3 : ME:=(mOp oIx (mVar 0) (mC (.int 2)))
def t_weight_3 : MT:=(toB (mOp (oIn false) (mTup (mCons (mOp oIx (mVar 0) (mC (.int 1))) (mCons (mOp oIx (mVar 0) (mC (.int 0))) mNil))) (mVar 1)))
def m_weight : MS := (mSeqS (mExpr (mCallF 1 F_need_question (mCons (mVar 0) mNil)))
    (mSeqS (mIfS (tNotM (toB (mCallF 2 F_is_cut (mCons (mVar 0) (mCons (mVar 1) mNil))))) (mRaise "NoPlan" (mC (.str "this is no cut"))) mNext)
    (mSeqS (mSet 2 (mCall (cInts fun ns=>some (.int ns.sum)) (mCons (mVal (mCompN [none,none,some 1] (gaTup (gaCons (gaName 0) (gaCons (gaName 1) gaNil))) (mEnum (mCons (mOp oIx (mVar 0) (mC (.int 0))) mNil)) t_weight_1 e_weight_1)) mNil)))
    (mSeqS (mSet 3 (mCall (cInts fun ns=>some (.int ns.sum)) (mCons (mVal (mCompN [none,none,some 1] (gaTup (gaCons (gaName 0) (gaCons (gaName 1) gaNil))) (mEnum (mCons (mOp oIx (mVar 0) (mC (.int 1))) mNil)) mTrue e_weight_2)) mNil)))
    (mSeqS (mSet 4 (mCall (cInts fun ns=>some (.int ns.sum)) (mCons (mVal (mCompN [none,some 1] (gaName 0) (mSeq (mOp oIx (mVar 0) (mC (.int 2)))) t_weight_3 e_weight_3)) mNil)))
    (mRet (mOp oAdd (mOp oAdd (mVar 2) (mVar 3)) (mVar 4))))))))
def F_weight : FN:=callF m_weight 5
theorem sc_weight : FnScope ["question", "cut", "starts", "by_roads", "taken"] ["question", "cut"] (defScope s_weight):=⟨rfl,rfl,rfl,by decide +kernel,rfl,by decide +kernel,by decide +kernel⟩
theorem ok_weight {f : Addr} {fd : FuncData} (F : Fun K "weight" "weight" s_weight f fd) (T : Txt mg) (C_NoPlan : ∃ C,mg "NoPlan" = some (.ref C) /\ PySem.W.excIn K C bmVE "ValueError.__new__" = true) (D_need_question : DefS P w K mg base 8 "need_question" 1 F_need_question) (D_is_cut : DefS P w K mg base 4 "is_cut" 2 F_is_cut) (D_weight_of_round : DefS P w K mg base 1 "weight_of_round" 3 F_weight_of_round) : FnOk P w K mg base (CXD P w) 9 f fd ["question", "cut"] (spF mg 2 F_weight):=by
  refine fun_ok2 (k:=8) (m:=m_weight) F sc_weight rfl rfl rfl fun cdv A outer s H E hr=>?_
  exact (sb_cons (ss_expr (se_call D_need_question (hr.mono (by decide)) pass_onD rfl (sa_cons (se_var 0) sa_nil)))
    (sb_cons (ss_if (st_not (st_val (se_call D_is_cut (hr.mono (by decide)) pass_onD rfl (sa_cons (se_var 0) (sa_cons (se_var 1) sa_nil))))) (sb_one (ss_raise rfl raiseDok rfl C_NoPlan.choose_spec.1 C_NoPlan.choose_spec.2 se_str)) sb_nil)
    (sb_cons (ss_set 2 sc_weight.nd (se_callB (cs_sum rfl) rfl T.b_sum boot_sum (sa_cons (se_val (sn_comp [none,none,some 1] ["house", "start", "cut"] rfl (si_enum rfl T.b_enumerate (sa_cons (se_ix (se_var 0) se_int) sa_nil)) (fun _ _ _ _ _=>(sg_tup rfl (sgs_cons (sg_name (i:=0) (show (["house", "start", "cut"] : List Str).Nodup by decide +kernel)) (sgs_cons (sg_name (i:=1) (show (["house", "start", "cut"] : List Str).Nodup by decide +kernel)) sgs_nil)))) (fun _ _ _ _ _=>(se_var 1)) (fun _ _ _ _ _=>(sts_one (st_cmp (os_notin hr.units) (se_tup (sa_cons (se_var 0) (sa_cons se_int sa_nil))) (se_var 2)))) (free_tup (free_cons (free_cons free_nil))))) sa_nil)))
    (sb_cons (ss_set 3 sc_weight.nd (se_callB (cs_sum rfl) rfl T.b_sum boot_sum (sa_cons (se_val (sn_comp [none,none,some 1] ["number", "roads", "cut"] rfl (si_enum rfl T.b_enumerate (sa_cons (se_ix (se_var 0) se_int) sa_nil)) (fun _ _ _ _ _=>(sg_tup rfl (sgs_cons (sg_name (i:=0) (show (["number", "roads", "cut"] : List Str).Nodup by decide +kernel)) (sgs_cons (sg_name (i:=1) (show (["number", "roads", "cut"] : List Str).Nodup by decide +kernel)) sgs_nil)))) (fun _ _ _ _ _=>(se_call D_weight_of_round (hr.mono (by decide)) pass00D rfl (sa_cons (se_var 1) (sa_cons (se_var 2) (sa_cons (se_var 0) sa_nil))))) (fun _ _ _ _ _=>sts_nil) (free_tup (free_cons (free_cons free_nil))))) sa_nil)))
    (sb_cons (ss_set 4 sc_weight.nd (se_callB (cs_sum rfl) rfl T.b_sum boot_sum (sa_cons (se_val (sn_comp [none,some 1] ["taking", "cut"] rfl (si_seq (se_ix (se_var 0) se_int)) (fun _ _ _ _ _=>(sg_name (i:=0) (show (["taking", "cut"] : List Str).Nodup by decide +kernel))) (fun _ _ _ _ _=>(se_ix (se_var 0) se_int)) (fun _ _ _ _ _=>(sts_one (st_cmp (os_in hr.units) (se_tup (sa_cons (se_ix (se_var 0) se_int) (sa_cons (se_ix (se_var 0) se_int) sa_nil))) (se_var 1)))) free_name)) sa_nil)))
    (sb_one (ss_ret (se_op os_add (se_op os_add (se_var 2) (se_var 3)) (se_var 4)))))))))
def m_ways_of : MS:=mStub
def F_ways_of : FN:=callF m_ways_of 5
theorem sc_ways_of : FnScope ["question", "starts", "ways", "number", "roads"] ["question"] (defScope s_ways_of):=⟨rfl,rfl,rfl,by decide +kernel,rfl,by decide +kernel,by decide +kernel⟩
theorem ok_ways_of {f : Addr} {fd : FuncData} (F : Fun K "ways_of" "ways_of" s_ways_of f fd) (T : Txt mg)   : FnOk P w K mg base (CXD P w) 1 f fd ["question"] (spF mg 1 F_ways_of):=by
  refine fun_ok2 (k:=0) (m:=m_ways_of) F sc_ways_of rfl rfl rfl fun cdv A outer s H E hr=>?_
  exact sb_stub
def m_ways_by_end : MS:=mStub
def F_ways_by_end : FN:=callF m_ways_by_end 4
theorem sc_ways_by_end : FnScope ["ways", "numbers", "number", "way"] ["ways"] (defScope s_ways_by_end):=⟨rfl,rfl,rfl,by decide +kernel,rfl,by decide +kernel,by decide +kernel⟩
theorem ok_ways_by_end {f : Addr} {fd : FuncData} (F : Fun K "ways_by_end" "ways_by_end" s_ways_by_end f fd) (T : Txt mg)   : FnOk P w K mg base (CXD P w) 1 f fd ["ways"] (spF mg 1 F_ways_by_end):=by
  refine fun_ok2 (k:=0) (m:=m_ways_by_end) F sc_ways_by_end rfl rfl rfl fun cdv A outer s H E hr=>?_
  exact sb_stub
def m_other_end : MS:=mStub
def F_other_end : FN:=callF m_other_end 3
theorem sc_other_end : FnScope ["way", "load", "end"] ["way", "load", "end"] (defScope s_other_end):=⟨rfl,rfl,rfl,by decide +kernel,rfl,by decide +kernel,by decide +kernel⟩
theorem ok_other_end {f : Addr} {fd : FuncData} (F : Fun K "other_end" "other_end" s_other_end f fd) (T : Txt mg)   : FnOk P w K mg base (CXD P w) 1 f fd ["way", "load", "end"] (spF mg 3 F_other_end):=by
  refine fun_ok2 (k:=0) (m:=m_other_end) F sc_other_end rfl rfl rfl fun cdv A outer s H E hr=>?_
  exact sb_stub
def m_reached : MS:=mStub
def F_reached : FN:=callF m_reached 9
theorem sc_reached : FnScope ["ways", "loads", "by_end", "found", "fresh", "further", "end", "number", "other"] ["ways", "loads"] (defScope s_reached):=⟨rfl,rfl,rfl,by decide +kernel,rfl,by decide +kernel,by decide +kernel⟩
theorem ok_reached {f : Addr} {fd : FuncData} (F : Fun K "reached" "reached" s_reached f fd) (T : Txt mg)   : FnOk P w K mg base (CXD P w) 1 f fd ["ways", "loads"] (spF mg 2 F_reached):=by
  refine fun_ok2 (k:=0) (m:=m_reached) F sc_reached rfl rfl rfl fun cdv A outer s H E hr=>?_
  exact sb_stub
def m_steps_back : MS:=mStub
def F_steps_back : FN:=callF m_steps_back 6
theorem sc_steps_back : FnScope ["ways", "found", "place", "steps", "at", "step"] ["ways", "found", "place"] (defScope s_steps_back):=⟨rfl,rfl,rfl,by decide +kernel,rfl,by decide +kernel,by decide +kernel⟩
theorem ok_steps_back {f : Addr} {fd : FuncData} (F : Fun K "steps_back" "steps_back" s_steps_back f fd) (T : Txt mg)   : FnOk P w K mg base (CXD P w) 1 f fd ["ways", "found", "place"] (spF mg 3 F_steps_back):=by
  refine fun_ok2 (k:=0) (m:=m_steps_back) F sc_steps_back rfl rfl rfl fun cdv A outer s H E hr=>?_
  exact sb_stub
def m_room_by : MS:=mStub
def F_room_by : FN:=callF m_room_by 3
theorem sc_room_by : FnScope ["ways", "loads", "steps"] ["ways", "loads", "steps"] (defScope s_room_by):=⟨rfl,rfl,rfl,by decide +kernel,rfl,by decide +kernel,by decide +kernel⟩
theorem ok_room_by {f : Addr} {fd : FuncData} (F : Fun K "room_by" "room_by" s_room_by f fd) (T : Txt mg)   : FnOk P w K mg base (CXD P w) 1 f fd ["ways", "loads", "steps"] (spF mg 3 F_room_by):=by
  refine fun_ok2 (k:=0) (m:=m_room_by) F sc_room_by rfl rfl rfl fun cdv A outer s H E hr=>?_
  exact sb_stub
def m_serve : MS:=mStub
def F_serve : FN:=callF m_serve 10
theorem sc_serve : FnScope ["ways", "loads", "taking", "place", "served", "found", "steps", "amount", "number", "onward"] ["ways", "loads", "taking"] (defScope s_serve):=⟨rfl,rfl,rfl,by decide +kernel,rfl,by decide +kernel,by decide +kernel⟩
theorem ok_serve {f : Addr} {fd : FuncData} (F : Fun K "serve" "serve" s_serve f fd) (T : Txt mg)   : FnOk P w K mg base (CXD P w) 1 f fd ["ways", "loads", "taking"] (spF mg 3 F_serve):=by
  refine fun_ok2 (k:=0) (m:=m_serve) F sc_serve rfl rfl rfl fun cdv A outer s H E hr=>?_
  exact sb_stub
def m_moves_by : MS:=mStub
def F_moves_by : FN:=callF m_moves_by 5
theorem sc_moves_by : FnScope ["ways", "loads", "moves", "way", "load"] ["ways", "loads"] (defScope s_moves_by):=⟨rfl,rfl,rfl,by decide +kernel,rfl,by decide +kernel,by decide +kernel⟩
theorem ok_moves_by {f : Addr} {fd : FuncData} (F : Fun K "moves_by" "moves_by" s_moves_by f fd) (T : Txt mg)   : FnOk P w K mg base (CXD P w) 1 f fd ["ways", "loads"] (spF mg 2 F_moves_by):=by
  refine fun_ok2 (k:=0) (m:=m_moves_by) F sc_moves_by rfl rfl rfl fun cdv A outer s H E hr=>?_
  exact sb_stub
def m_all_served : MS:=mStub
def F_all_served : FN:=callF m_all_served 5
theorem sc_all_served : FnScope ["question", "ways", "loads", "served", "cut"] ["question"] (defScope s_all_served):=⟨rfl,rfl,rfl,by decide +kernel,rfl,by decide +kernel,by decide +kernel⟩
theorem ok_all_served {f : Addr} {fd : FuncData} (F : Fun K "all_served" "all_served" s_all_served f fd) (T : Txt mg)   : FnOk P w K mg base (CXD P w) 1 f fd ["question"] (spF mg 1 F_all_served):=by
  refine fun_ok2 (k:=0) (m:=m_all_served) F sc_all_served rfl rfl rfl fun cdv A outer s H E hr=>?_
  exact sb_stub
def m_best : MS := (mSeqS (mExpr (mCallF 1 F_need_question (mCons (mVar 0) mNil)))
    (mSeqS (mSet 1 (mCallF 1 F_all_served (mCons (mVar 0) mNil)))
    (mRet (mTup (mCons (mCall (cInts fun ns=>some (.int ns.sum)) (mCons (mOp oIx (mVar 1) (mC (.int 0))) mNil)) (mCons (mTup (mCons (mOp oIx (mVar 1) (mC (.int 1))) (mCons (mOp oIx (mVar 1) (mC (.int 0))) mNil))) (mCons (mOp oIx (mVar 1) (mC (.int 2))) mNil)))))))
def F_best : FN:=callF m_best 2
theorem sc_best : FnScope ["question", "told"] ["question"] (defScope s_best):=⟨rfl,rfl,rfl,by decide +kernel,rfl,by decide +kernel,by decide +kernel⟩
theorem ok_best {f : Addr} {fd : FuncData} (F : Fun K "best" "best" s_best f fd) (T : Txt mg)  (D_need_question : DefS P w K mg base 8 "need_question" 1 F_need_question) (D_all_served : DefS P w K mg base 1 "all_served" 1 F_all_served) : FnOk P w K mg base (CXD P w) 9 f fd ["question"] (spF mg 1 F_best):=by
  refine fun_ok2 (k:=8) (m:=m_best) F sc_best rfl rfl rfl fun cdv A outer s H E hr=>?_
  exact (sb_cons (ss_expr (se_call D_need_question (hr.mono (by decide)) pass_onD rfl (sa_cons (se_var 0) sa_nil)))
    (sb_cons (ss_set 1 sc_best.nd (se_call D_all_served (hr.mono (by decide)) pass_onD rfl (sa_cons (se_var 0) sa_nil)))
    (sb_one (ss_ret (se_tup (sa_cons (se_callB (cs_sum rfl) rfl T.b_sum boot_sum (sa_cons (se_ix (se_var 1) se_int) sa_nil)) (sa_cons (se_tup (sa_cons (se_ix (se_var 1) se_int) (sa_cons (se_ix (se_var 1) se_int) sa_nil))) (sa_cons (se_ix (se_var 1) se_int) sa_nil))))))))
def m_first_served : MS := (mSeqS (mExpr (mCallF 1 F_need_question (mCons (mVar 0) mNil)))
    (mSeqS (mSet 1 (mCallF 1 F_all_served (mCons (mVar 0) mNil)))
    (mRet (mTup (mCons (mOp oIx (mVar 1) (mC (.int 0))) (mCons (mTup (mCons (mOp oIx (mVar 1) (mC (.int 1))) (mCons (mCall cList (mCons (mOp oIx (mVar 1) (mC (.int 0))) mNil)) mNil))) mNil))))))
def F_first_served : FN:=callF m_first_served 2
theorem sc_first_served : FnScope ["question", "told"] ["question"] (defScope s_first_served):=⟨rfl,rfl,rfl,by decide +kernel,rfl,by decide +kernel,by decide +kernel⟩
theorem ok_first_served {f : Addr} {fd : FuncData} (F : Fun K "first_served" "first_served" s_first_served f fd) (T : Txt mg)  (D_need_question : DefS P w K mg base 8 "need_question" 1 F_need_question) (D_all_served : DefS P w K mg base 1 "all_served" 1 F_all_served) : FnOk P w K mg base (CXD P w) 9 f fd ["question"] (spF mg 1 F_first_served):=by
  refine fun_ok2 (k:=8) (m:=m_first_served) F sc_first_served rfl rfl rfl fun cdv A outer s H E hr=>?_
  exact (sb_cons (ss_expr (se_call D_need_question (hr.mono (by decide)) pass_onD rfl (sa_cons (se_var 0) sa_nil)))
    (sb_cons (ss_set 1 sc_first_served.nd (se_call D_all_served (hr.mono (by decide)) pass_onD rfl (sa_cons (se_var 0) sa_nil)))
    (sb_one (ss_ret (se_tup (sa_cons (se_ix (se_var 1) se_int) (sa_cons (se_tup (sa_cons (se_ix (se_var 1) se_int) (sa_cons (se_callT cs_list rfl T.b_list boot_list (sa_cons (se_ix (se_var 1) se_int) sa_nil)) sa_nil))) sa_nil)))))))
def m__law_acell : MS := (mSeqS (mIfS (toB (mOp oLt (mVar 1) (mCall cLen (mCons (mVar 0) mNil)))) (mRet (mOp oIx (mVar 0) (mVar 1))) mNext)
    (mRet (mC (.int 0))))
def F__law_acell : FN:=callF m__law_acell 2
theorem sc__law_acell : FnScope ["script", "k"] ["script", "k"] (defScope s__law_acell):=⟨rfl,rfl,rfl,by decide +kernel,rfl,by decide +kernel,by decide +kernel⟩
theorem ok__law_acell {f : Addr} {fd : FuncData} (F : Fun K "_law_acell" "_law_acell" s__law_acell f fd) (T : Txt mg)   : FnOk P w K mg base (CXD P w) 1 f fd ["script", "k"] (spF mg 2 F__law_acell):=by
  refine fun_ok2 (k:=0) (m:=m__law_acell) F sc__law_acell rfl rfl rfl fun cdv A outer s H E hr=>?_
  exact (sb_cons (ss_if (st_cmp (os_lt hr.units) (se_var 1) (se_callB cs_len rfl T.b_len PySem.boot_len (sa_cons (se_var 0) sa_nil))) (sb_one (ss_ret (se_ix (se_var 0) (se_var 1)))) sb_nil)
    (sb_one (ss_ret se_int)))
def b__law_atape_1 : MS := (mSeqS (mSet 4 (mOp oAdd (mOp oMul (mVar 4) (mVar 3)) (mVar 5)))
    (mSet 5 (mOp oMod (mOp oAdd (mOp oAdd (mOp oMul (mVar 5) (mVar 5)) (mOp oMul (mC (.int 40692)) (mVar 1))) (mVar 6)) (mVar 3))))
def m__law_atape : MS := (mSeqS (mSet 2 (mCallF 2 F__law_acell (mCons (mVar 0) (mCons (mVar 1) mNil))))
    (mSeqS (mIfS (toB (mOp oEq (mOp oMod (mVar 2) (mC (.int 2))) (mC (.int 0)))) (mRet (mTrk (mLstN (mCons (mOp oDiv (mVar 2) (mC (.int 2))) mNil)))) mNext)
    (mSeqS (mSet 3 (mC (.int 2305843009213693951)))
    (mSeqS (mSet 4 (mC (.int 0)))
    (mSeqS (mSet 5 (mOp oMod (mOp oAdd (mOp oAdd (mOp oMul (mOp oMod (mVar 2) (mVar 3)) (mC (.int 48271))) (mOp oMul (mC (.int 69621)) (mVar 1))) (mC (.int 11))) (mVar 3)))
    (mSeqS (mFor (gaName 6) (mRange1 (mCons (mC (.int 5)) mNil)) b__law_atape_1)
    (mRet (mTrk (mLstN (mCons (mVar 4) mNil))))))))))
def F__law_atape : FN:=callK m__law_atape 7
theorem sc__law_atape : FnScope ["script", "k", "cell", "p", "number", "last", "turn"] ["script", "k"] (defScope s__law_atape):=⟨rfl,rfl,rfl,by decide +kernel,rfl,by decide +kernel,by decide +kernel⟩
theorem ok__law_atape {f : Addr} {fd : FuncData} (F : Fun K "_law_atape" "_law_atape" s__law_atape f fd) (T : Txt mg)  (D__law_acell : DefS P w K mg base 1 "_law_acell" 2 F__law_acell) : FnOk P w K mg base (CXD P w) 2 f fd ["script", "k"] (spF mg 2 F__law_atape):=by
  refine fun_ok2K (k:=1) (m:=m__law_atape) F sc__law_atape rfl rfl rfl fun cdv A outer s H E hr=>?_
  exact (sb_cons (ss_set 2 sc__law_atape.nd (se_call D__law_acell (hr.mono (by decide)) pass_onD rfl (sa_cons (se_var 0) (sa_cons (se_var 1) sa_nil))))
    (sb_cons (ss_if (st_cmp (os_eq hr.units) (se_op os_mod (se_var 2) se_int) se_int) (sb_one (ss_ret (se_trk (sn_lst (sa_cons (se_op os_div (se_var 2) se_int) sa_nil))))) sb_nil)
    (sb_cons (ss_set 3 sc__law_atape.nd se_int)
    (sb_cons (ss_set 4 sc__law_atape.nd se_int)
    (sb_cons (ss_set 5 sc__law_atape.nd (se_op os_mod (se_op os_add (se_op os_add (se_op os_mul (se_op os_mod (se_var 2) (se_var 3)) se_int) (se_op os_mul se_int (se_var 1))) se_int) (se_var 3)))
    (sb_cons (ss_for PassesOwn.leaving rfl (si_range1 rfl T.b_range (sa_cons se_int sa_nil)) (sg_name (i:=6) sc__law_atape.nd) (sb_cons (ss_set 4 sc__law_atape.nd (se_op os_add (se_op os_mul (se_var 4) (se_var 3)) (se_var 5)))
    (sb_one (ss_set 5 sc__law_atape.nd (se_op os_mod (se_op os_add (se_op os_add (se_op os_mul (se_var 5) (se_var 5)) (se_op os_mul se_int (se_var 1))) (se_var 6)) (se_var 3))))))
    (sb_one (ss_ret (se_trk (sn_lst (sa_cons (se_var 4) sa_nil)))))))))))
def m__law_adigit : MS := (mSeqS (mSet 2 (mOp oMod (mOp oIx (mVar 0) (mC (.int 0))) (mVar 1)))
    (mSeqS (mSetIx (mVar 0) (mC (.int 0)) (mOp oDiv (mOp oIx (mVar 0) (mC (.int 0))) (mVar 1)))
    (mRet (mVar 2))))
def F__law_adigit : FN:=callF m__law_adigit 3
theorem sc__law_adigit : FnScope ["tape", "many", "found"] ["tape", "many"] (defScope s__law_adigit):=⟨rfl,rfl,rfl,by decide +kernel,rfl,by decide +kernel,by decide +kernel⟩
theorem ok__law_adigit {f : Addr} {fd : FuncData} (F : Fun K "_law_adigit" "_law_adigit" s__law_adigit f fd) (T : Txt mg)   : FnOk P w K mg base (CXD P w) 1 f fd ["tape", "many"] (spF mg 2 F__law_adigit):=by
  refine fun_ok2 (k:=0) (m:=m__law_adigit) F sc__law_adigit rfl rfl rfl fun cdv A outer s H E hr=>?_
  exact (sb_cons (ss_set 2 sc__law_adigit.nd (se_op os_mod (se_ix (se_var 0) se_int) (se_var 1)))
    (sb_cons (ss_sub (se_op os_div (se_ix (se_var 0) se_int) (se_var 1)) (se_var 0) se_int)
    (sb_one (ss_ret (se_var 2)))))
def m__law_awhole : MS:=(mRet (mAnd (mIsI "int" (mVar 0)) (mNot (mIsI "bool" (mVar 0)))))
def F__law_awhole : FN:=callF m__law_awhole 1
theorem sc__law_awhole : FnScope ["found"] ["found"] (defScope s__law_awhole):=⟨rfl,rfl,rfl,by decide +kernel,rfl,by decide +kernel,by decide +kernel⟩
theorem ok__law_awhole {f : Addr} {fd : FuncData} (F : Fun K "_law_awhole" "_law_awhole" s__law_awhole f fd) (T : Txt mg)   : FnOk P w K mg base (CXD P w) 1 f fd ["found"] (spF mg 1 F__law_awhole):=by
  refine fun_ok2 (k:=0) (m:=m__law_awhole) F sc__law_awhole rfl rfl rfl fun cdv A outer s H E hr=>?_
  exact (sb_one (ss_ret (se_and (se_isi (T := "int") (by decide) (se_var 0) rfl T.b_isinstance rfl T.b_int boot_int) (se_one (se_not (se_isi (T := "bool") (by decide) (se_var 0) rfl T.b_isinstance rfl T.b_bool boot_bool))))))
abbrev kdL : List (Nat × Str):=[(7, "plan")]
def spKd (c : Nat -> Addr) : Sp:=fun vs H Q E=>∃ e dv t wd,vs = [V.ref e] /\ (t,wd) ∈ kdL /\ H e = some (.ext (IsXD e (c t) dv)) /\ ∀ H2,Same H H2 -> Q (.str wd) H2
theorem sc__law_akind : FnScope ["caught", "names", "some"] ["caught"] (defScope s__law_akind):=⟨rfl,rfl,rfl,by decide +kernel,rfl,by decide +kernel,by decide +kernel⟩
theorem ok__law_akind {f : Addr} {fd : FuncData} {c : Nat -> Addr} (F : Fun K "_law_akind" "_law_akind" s__law_akind f fd) (T : Txt mg) (Nm : Nms mg c) (TT : ∀ t wd,(t,wd) ∈ kdL -> TgtS K c t /\ PySem.W.kitOne K (.ref (c t)) (.ref (c 0)) = some true) : FnOk P w K mg base (CXD P w) 1 f fd ["caught"] (spKd c):=by
  refine Fun.okD (k:=0) F sc__law_akind (fun vs H Q E h=>by obtain ⟨e,dv,_,_,rfl,_⟩:=h; rfl) fun cdv A outer s H vs Q E hr hsp=>?_
  obtain ⟨e,dv,t,wd,rfl,hm,hE0,hQ⟩:=hsp
  obtain ⟨T0,W0⟩:=TT t wd hm
  refine jok ?_
  refine ⟨_,jss_cons (js_set (i:=1) sc__law_akind.nd rfl (Or.inl rfl) (je_lst ⟨pa_strsE ["book", "deed", "house", "letter", "manner", "name", "plan", "road", "row", "stand", "table"] [(_,_),(_,_),(_,_),(_,_),(_,_),(_,_),(_,_),(_,_),(_,_),(_,_),(_,_)] rfl⟩))
      (jss_cons (js_set (i:=1) sc__law_akind.nd rfl (Or.inl rfl) (je_op op_cat ⟨pv 1⟩ (je_lst ⟨pa_strsE ["text", "short", "many"] [(_,_),(_,_),(_,_)] rfl⟩)))
      (jss_cons (js_set (i:=2) sc__law_akind.nd rfl (Or.inl rfl) (je_lst (ja_cons ⟨pe_callB (call_isxD K) (by rfl) Nm.isi boot_isinstance (pa_cons (pv 0) (pa_cons (pe_glob (v:=.ref (c 8)) (by rfl) Nm.m8 rfl) pa_nil))⟩ (ja_cons ⟨pe_callB (call_isxD K) (by rfl) Nm.isi boot_isinstance (pa_cons (pv 0) (pa_cons (pe_glob (v:=.ref (c 3)) (by rfl) Nm.m3 rfl) pa_nil))⟩ (ja_cons ⟨pe_callB (call_isxD K) (by rfl) Nm.isi boot_isinstance (pa_cons (pv 0) (pa_cons (pe_glob (v:=.ref (c 2)) (by rfl) Nm.m2 rfl) pa_nil))⟩ ja_nil)))))
      (jss_cons (js_set (i:=2) sc__law_akind.nd rfl (Or.inl rfl) (je_op op_cat ⟨pv 2⟩ (je_lst (ja_cons ⟨pe_callB (call_isxD K) (by rfl) Nm.isi boot_isinstance (pa_cons (pv 0) (pa_cons (pe_glob (v:=.ref (c 4)) (by rfl) Nm.m4 rfl) pa_nil))⟩ (ja_cons ⟨pe_callB (call_isxD K) (by rfl) Nm.isi boot_isinstance (pa_cons (pv 0) (pa_cons (pe_glob (v:=.ref (c 9)) (by rfl) Nm.m9 rfl) pa_nil))⟩ (ja_cons ⟨pe_callB (call_isxD K) (by rfl) Nm.isi boot_isinstance (pa_cons (pv 0) (pa_cons (pe_glob (v:=.ref (c 13)) (by rfl) Nm.m13 rfl) pa_nil))⟩ ja_nil))))))
      (jss_cons (js_set (i:=2) sc__law_akind.nd rfl (Or.inl rfl) (je_op op_cat ⟨pv 2⟩ (je_lst (ja_cons ⟨pe_callB (call_isxD K) (by rfl) Nm.isi boot_isinstance (pa_cons (pv 0) (pa_cons (pe_glob (v:=.ref (c 7)) (by rfl) Nm.m7 rfl) pa_nil))⟩ (ja_cons ⟨pe_callB (call_isxD K) (by rfl) Nm.isi boot_isinstance (pa_cons (pv 0) (pa_cons (pe_glob (v:=.ref (c 6)) (by rfl) Nm.m6 rfl) pa_nil))⟩ (ja_cons ⟨pe_callB (call_isxD K) (by rfl) Nm.isi boot_isinstance (pa_cons (pv 0) (pa_cons (pe_glob (v:=.ref (c 12)) (by rfl) Nm.m12 rfl) pa_nil))⟩ ja_nil))))))
      (jss_cons (js_set (i:=2) sc__law_akind.nd rfl (Or.inl rfl) (je_op op_cat ⟨pv 2⟩ (je_lst (ja_cons ⟨pe_callB (call_isxD K) (by rfl) Nm.isi boot_isinstance (pa_cons (pv 0) (pa_cons (pe_glob (v:=.ref (c 5)) (by rfl) Nm.m5 rfl) pa_nil))⟩ (ja_cons ⟨pe_callB (call_isxD K) (by rfl) Nm.isi boot_isinstance (pa_cons (pv 0) (pa_cons (pe_glob (v:=.ref (c 1)) (by rfl) Nm.m1 rfl) pa_nil))⟩ (ja_cons ⟨pe_callB (call_isxD K) (by rfl) Nm.isi boot_isinstance (pa_cons (pv 0) (pa_cons (pe_glob (v:=.ref (c 11)) (by rfl) Nm.m11 rfl) pa_nil))⟩ ja_nil))))))
      (jss_cons (js_set (i:=2) sc__law_akind.nd rfl (Or.inl rfl) (je_op op_cat ⟨pv 2⟩ (je_lst (ja_cons ⟨pe_callB (call_isxD K) (by rfl) Nm.isi boot_isinstance (pa_cons (pv 0) (pa_cons (pe_glob (v:=.ref (c 14)) (by rfl) Nm.m14 rfl) pa_nil))⟩ (ja_cons ⟨pe_callB (call_isxD K) (by rfl) Nm.isi boot_isinstance (pa_cons (pv 0) (pa_cons (pe_glob (v:=.ref (c 10)) (by rfl) Nm.m10 rfl) pa_nil))⟩ ja_nil)))))
      (jss_cons (js_if (PW.pt (pw_or (pt_cmpR op_ne (pe_bm PySem.F.plainAttrs_list PySem.F.slot_list_count PySem.F.type_list_count mt_countB (pv 2) (pa_cons pe_bl pa_nil)) pe_int (nomark _)) (pw_or (pt_not (pt_val (pe_callB (call_isxD K) (by rfl) Nm.isi boot_isinstance (pa_cons (pv 0) (pa_cons (pe_glob (v:=.ref (c 0)) (by rfl) Nm.m0 rfl) pa_nil))))) (pw_or1 (pt_not (pt_val (pe_callB (call_isxD K) (by rfl) Nm.isi boot_isinstance (pa_cons (pv 0) (pa_cons (pe_bltn (v:=.ty "ValueError") (by rfl) Nm.ve boot_ValueError rfl) pa_nil))))))))) (jss_one (js_ret je_str)) jss_nil)
      (jss_one (js_ret (je_ix ix_list (⟨pv 1⟩) ⟨pe_bm PySem.F.plainAttrs_list PySem.F.slot_list_index PySem.F.type_list_index mt_indexB (pv 2) (pa_cons pe_bl pa_nil)⟩ (fun _ _=>rfl))))))))))),?_⟩
  refine ⟨by first | decide | exact small1000 (by simp),fun p1 hp1=>?_⟩
  obtain ⟨H1,e1⟩ : ∃ H1,upd H p1 (.lst (List.map V.str ["book", "deed", "house", "letter", "manner", "name", "plan", "road", "row", "stand", "table"])) = H1:=⟨_,rfl⟩
  have hE1 : H1 e = some (.ext (IsXD e (c t) dv)):=e1 ▸ keepE hE0 hp1
  have sm1 : Same H H1:=e1 ▸ same_add (fun _ _ z=>z) hp1
  have k_p1_1 : H1 p1 = some (.lst (List.map V.str ["book", "deed", "house", "letter", "manner", "name", "plan", "road", "row", "stand", "table"])):=e1 ▸ upd_same
  rw [show upd H p1 (.lst (List.map V.str ["book", "deed", "house", "letter", "manner", "name", "plan", "road", "row", "stand", "table"])) = H1 from e1]
  refine ⟨_,rfl,?_⟩
  refine ⟨by first | decide | exact small1000 (by simp),fun p2 hp2=>?_⟩
  obtain ⟨H2,e2⟩ : ∃ H2,upd H1 p2 (.lst (List.map V.str ["text", "short", "many"])) = H2:=⟨_,rfl⟩
  have hE2 : H2 e = some (.ext (IsXD e (c t) dv)):=e2 ▸ keepE hE1 hp2
  have sm2 : Same H H2:=e2 ▸ same_add sm1 hp2
  have k_p2_2 : H2 p2 = some (.lst (List.map V.str ["text", "short", "many"])):=e2 ▸ upd_same
  have k_p1_2 : H2 p1 = some (.lst (List.map V.str ["book", "deed", "house", "letter", "manner", "name", "plan", "road", "row", "stand", "table"])):=e2 ▸ keepE k_p1_1 hp2
  rw [show upd H1 p2 (.lst (List.map V.str ["text", "short", "many"])) = H2 from e2]
  refine ⟨_,_,_,_,rfl,rfl,k_p1_2,k_p2_2,(by first | decide | exact small1000 (by simp)),fun p3 hp3=>?_⟩
  obtain ⟨H3,e3⟩ : ∃ H3,upd H2 p3 (.lst (List.map V.str ["book", "deed", "house", "letter", "manner", "name", "plan", "road", "row", "stand", "table"] ++ List.map V.str ["text", "short", "many"])) = H3:=⟨_,rfl⟩
  have hE3 : H3 e = some (.ext (IsXD e (c t) dv)):=e3 ▸ keepE hE2 hp3
  have sm3 : Same H H3:=e3 ▸ same_add sm2 hp3
  have k_p3_3 : H3 p3 = some (.lst (List.map V.str ["book", "deed", "house", "letter", "manner", "name", "plan", "road", "row", "stand", "table"] ++ List.map V.str ["text", "short", "many"])):=e3 ▸ upd_same
  have k_p1_3 : H3 p1 = some (.lst (List.map V.str ["book", "deed", "house", "letter", "manner", "name", "plan", "road", "row", "stand", "table"])):=e3 ▸ keepE k_p1_2 hp3
  rw [show upd H2 p3 (.lst (List.map V.str ["book", "deed", "house", "letter", "manner", "name", "plan", "road", "row", "stand", "table"] ++ List.map V.str ["text", "short", "many"])) = H3 from e3]
  refine ⟨_,rfl,e,_,_,_,_,decide (8 = t),rfl,rfl,hE3,T0.xc,T0.k 8 (by decide) (by decide),?_⟩
  refine ⟨_,rfl,e,_,_,_,_,decide (3 = t),rfl,rfl,hE3,T0.xc,T0.k 3 (by decide) (by decide),?_⟩
  refine ⟨_,rfl,e,_,_,_,_,decide (2 = t),rfl,rfl,hE3,T0.xc,T0.k 2 (by decide) (by decide),?_⟩
  refine ⟨by first | decide | exact small1000 (by simp),fun p4 hp4=>?_⟩
  obtain ⟨H4,e4⟩ : ∃ H4,upd H3 p4 (.lst [.bl (decide (8 = t)),.bl (decide (3 = t)),.bl (decide (2 = t))]) = H4:=⟨_,rfl⟩
  have hE4 : H4 e = some (.ext (IsXD e (c t) dv)):=e4 ▸ keepE hE3 hp4
  have sm4 : Same H H4:=e4 ▸ same_add sm3 hp4
  have k_p4_4 : H4 p4 = some (.lst [.bl (decide (8 = t)),.bl (decide (3 = t)),.bl (decide (2 = t))]):=e4 ▸ upd_same
  have k_p3_4 : H4 p3 = some (.lst (List.map V.str ["book", "deed", "house", "letter", "manner", "name", "plan", "road", "row", "stand", "table"] ++ List.map V.str ["text", "short", "many"])):=e4 ▸ keepE k_p3_3 hp4
  rw [show upd H3 p4 (.lst (_)) = H4 from e4]
  refine ⟨_,rfl,?_⟩
  refine ⟨_,rfl,e,_,_,_,_,decide (4 = t),rfl,rfl,hE4,T0.xc,T0.k 4 (by decide) (by decide),?_⟩
  refine ⟨_,rfl,e,_,_,_,_,decide (9 = t),rfl,rfl,hE4,T0.xc,T0.k 9 (by decide) (by decide),?_⟩
  refine ⟨_,rfl,e,_,_,_,_,decide (13 = t),rfl,rfl,hE4,T0.xc,T0.k 13 (by decide) (by decide),?_⟩
  refine ⟨by first | decide | exact small1000 (by simp),fun p5 hp5=>?_⟩
  obtain ⟨H5,e5⟩ : ∃ H5,upd H4 p5 (.lst [.bl (decide (4 = t)),.bl (decide (9 = t)),.bl (decide (13 = t))]) = H5:=⟨_,rfl⟩
  have hE5 : H5 e = some (.ext (IsXD e (c t) dv)):=e5 ▸ keepE hE4 hp5
  have sm5 : Same H H5:=e5 ▸ same_add sm4 hp5
  have k_p5_5 : H5 p5 = some (.lst [.bl (decide (4 = t)),.bl (decide (9 = t)),.bl (decide (13 = t))]):=e5 ▸ upd_same
  have k_p3_5 : H5 p3 = some (.lst (List.map V.str ["book", "deed", "house", "letter", "manner", "name", "plan", "road", "row", "stand", "table"] ++ List.map V.str ["text", "short", "many"])):=e5 ▸ keepE k_p3_4 hp5
  have k_p4_5 : H5 p4 = some (.lst [.bl (decide (8 = t)),.bl (decide (3 = t)),.bl (decide (2 = t))]):=e5 ▸ keepE k_p4_4 hp5
  rw [show upd H4 p5 (.lst (_)) = H5 from e5]
  refine ⟨_,_,_,_,rfl,rfl,k_p4_5,k_p5_5,(by first | decide | exact small1000 (by simp)),fun p6 hp6=>?_⟩
  obtain ⟨H6,e6⟩ : ∃ H6,upd H5 p6 (.lst [.bl (decide (8 = t)),.bl (decide (3 = t)),.bl (decide (2 = t)),.bl (decide (4 = t)),.bl (decide (9 = t)),.bl (decide (13 = t))]) = H6:=⟨_,rfl⟩
  have hE6 : H6 e = some (.ext (IsXD e (c t) dv)):=e6 ▸ keepE hE5 hp6
  have sm6 : Same H H6:=e6 ▸ same_add sm5 hp6
  have k_p6_6 : H6 p6 = some (.lst [.bl (decide (8 = t)),.bl (decide (3 = t)),.bl (decide (2 = t)),.bl (decide (4 = t)),.bl (decide (9 = t)),.bl (decide (13 = t))]):=e6 ▸ upd_same
  have k_p3_6 : H6 p3 = some (.lst (List.map V.str ["book", "deed", "house", "letter", "manner", "name", "plan", "road", "row", "stand", "table"] ++ List.map V.str ["text", "short", "many"])):=e6 ▸ keepE k_p3_5 hp6
  have k_p4_6 : H6 p4 = some (.lst [.bl (decide (8 = t)),.bl (decide (3 = t)),.bl (decide (2 = t))]):=e6 ▸ keepE k_p4_5 hp6
  rw [show upd H5 p6 (.lst ([.bl (decide (8 = t)),.bl (decide (3 = t)),.bl (decide (2 = t))] ++ [.bl (decide (4 = t)),.bl (decide (9 = t)),.bl (decide (13 = t))])) = H6 from e6]
  refine ⟨_,rfl,?_⟩
  refine ⟨_,rfl,e,_,_,_,_,decide (7 = t),rfl,rfl,hE6,T0.xc,T0.k 7 (by decide) (by decide),?_⟩
  refine ⟨_,rfl,e,_,_,_,_,decide (6 = t),rfl,rfl,hE6,T0.xc,T0.k 6 (by decide) (by decide),?_⟩
  refine ⟨_,rfl,e,_,_,_,_,decide (12 = t),rfl,rfl,hE6,T0.xc,T0.k 12 (by decide) (by decide),?_⟩
  refine ⟨by first | decide | exact small1000 (by simp),fun p7 hp7=>?_⟩
  obtain ⟨H7,e7⟩ : ∃ H7,upd H6 p7 (.lst [.bl (decide (7 = t)),.bl (decide (6 = t)),.bl (decide (12 = t))]) = H7:=⟨_,rfl⟩
  have hE7 : H7 e = some (.ext (IsXD e (c t) dv)):=e7 ▸ keepE hE6 hp7
  have sm7 : Same H H7:=e7 ▸ same_add sm6 hp7
  have k_p7_7 : H7 p7 = some (.lst [.bl (decide (7 = t)),.bl (decide (6 = t)),.bl (decide (12 = t))]):=e7 ▸ upd_same
  have k_p3_7 : H7 p3 = some (.lst (List.map V.str ["book", "deed", "house", "letter", "manner", "name", "plan", "road", "row", "stand", "table"] ++ List.map V.str ["text", "short", "many"])):=e7 ▸ keepE k_p3_6 hp7
  have k_p6_7 : H7 p6 = some (.lst [.bl (decide (8 = t)),.bl (decide (3 = t)),.bl (decide (2 = t)),.bl (decide (4 = t)),.bl (decide (9 = t)),.bl (decide (13 = t))]):=e7 ▸ keepE k_p6_6 hp7
  rw [show upd H6 p7 (.lst (_)) = H7 from e7]
  refine ⟨_,_,_,_,rfl,rfl,k_p6_7,k_p7_7,(by first | decide | exact small1000 (by simp)),fun p8 hp8=>?_⟩
  obtain ⟨H8,e8⟩ : ∃ H8,upd H7 p8 (.lst [.bl (decide (8 = t)),.bl (decide (3 = t)),.bl (decide (2 = t)),.bl (decide (4 = t)),.bl (decide (9 = t)),.bl (decide (13 = t)),.bl (decide (7 = t)),.bl (decide (6 = t)),.bl (decide (12 = t))]) = H8:=⟨_,rfl⟩
  have hE8 : H8 e = some (.ext (IsXD e (c t) dv)):=e8 ▸ keepE hE7 hp8
  have sm8 : Same H H8:=e8 ▸ same_add sm7 hp8
  have k_p8_8 : H8 p8 = some (.lst [.bl (decide (8 = t)),.bl (decide (3 = t)),.bl (decide (2 = t)),.bl (decide (4 = t)),.bl (decide (9 = t)),.bl (decide (13 = t)),.bl (decide (7 = t)),.bl (decide (6 = t)),.bl (decide (12 = t))]):=e8 ▸ upd_same
  have k_p3_8 : H8 p3 = some (.lst (List.map V.str ["book", "deed", "house", "letter", "manner", "name", "plan", "road", "row", "stand", "table"] ++ List.map V.str ["text", "short", "many"])):=e8 ▸ keepE k_p3_7 hp8
  have k_p6_8 : H8 p6 = some (.lst [.bl (decide (8 = t)),.bl (decide (3 = t)),.bl (decide (2 = t)),.bl (decide (4 = t)),.bl (decide (9 = t)),.bl (decide (13 = t))]):=e8 ▸ keepE k_p6_7 hp8
  rw [show upd H7 p8 (.lst ([.bl (decide (8 = t)),.bl (decide (3 = t)),.bl (decide (2 = t)),.bl (decide (4 = t)),.bl (decide (9 = t)),.bl (decide (13 = t))] ++ [.bl (decide (7 = t)),.bl (decide (6 = t)),.bl (decide (12 = t))])) = H8 from e8]
  refine ⟨_,rfl,?_⟩
  refine ⟨_,rfl,e,_,_,_,_,decide (5 = t),rfl,rfl,hE8,T0.xc,T0.k 5 (by decide) (by decide),?_⟩
  refine ⟨_,rfl,e,_,_,_,_,decide (1 = t),rfl,rfl,hE8,T0.xc,T0.k 1 (by decide) (by decide),?_⟩
  refine ⟨_,rfl,e,_,_,_,_,decide (11 = t),rfl,rfl,hE8,T0.xc,T0.k 11 (by decide) (by decide),?_⟩
  refine ⟨by first | decide | exact small1000 (by simp),fun p9 hp9=>?_⟩
  obtain ⟨H9,e9⟩ : ∃ H9,upd H8 p9 (.lst [.bl (decide (5 = t)),.bl (decide (1 = t)),.bl (decide (11 = t))]) = H9:=⟨_,rfl⟩
  have hE9 : H9 e = some (.ext (IsXD e (c t) dv)):=e9 ▸ keepE hE8 hp9
  have sm9 : Same H H9:=e9 ▸ same_add sm8 hp9
  have k_p9_9 : H9 p9 = some (.lst [.bl (decide (5 = t)),.bl (decide (1 = t)),.bl (decide (11 = t))]):=e9 ▸ upd_same
  have k_p3_9 : H9 p3 = some (.lst (List.map V.str ["book", "deed", "house", "letter", "manner", "name", "plan", "road", "row", "stand", "table"] ++ List.map V.str ["text", "short", "many"])):=e9 ▸ keepE k_p3_8 hp9
  have k_p8_9 : H9 p8 = some (.lst [.bl (decide (8 = t)),.bl (decide (3 = t)),.bl (decide (2 = t)),.bl (decide (4 = t)),.bl (decide (9 = t)),.bl (decide (13 = t)),.bl (decide (7 = t)),.bl (decide (6 = t)),.bl (decide (12 = t))]):=e9 ▸ keepE k_p8_8 hp9
  rw [show upd H8 p9 (.lst (_)) = H9 from e9]
  refine ⟨_,_,_,_,rfl,rfl,k_p8_9,k_p9_9,(by first | decide | exact small1000 (by simp)),fun p10 hp10=>?_⟩
  obtain ⟨H10,e10⟩ : ∃ H10,upd H9 p10 (.lst [.bl (decide (8 = t)),.bl (decide (3 = t)),.bl (decide (2 = t)),.bl (decide (4 = t)),.bl (decide (9 = t)),.bl (decide (13 = t)),.bl (decide (7 = t)),.bl (decide (6 = t)),.bl (decide (12 = t)),.bl (decide (5 = t)),.bl (decide (1 = t)),.bl (decide (11 = t))]) = H10:=⟨_,rfl⟩
  have hE10 : H10 e = some (.ext (IsXD e (c t) dv)):=e10 ▸ keepE hE9 hp10
  have sm10 : Same H H10:=e10 ▸ same_add sm9 hp10
  have k_p10_10 : H10 p10 = some (.lst [.bl (decide (8 = t)),.bl (decide (3 = t)),.bl (decide (2 = t)),.bl (decide (4 = t)),.bl (decide (9 = t)),.bl (decide (13 = t)),.bl (decide (7 = t)),.bl (decide (6 = t)),.bl (decide (12 = t)),.bl (decide (5 = t)),.bl (decide (1 = t)),.bl (decide (11 = t))]):=e10 ▸ upd_same
  have k_p3_10 : H10 p3 = some (.lst (List.map V.str ["book", "deed", "house", "letter", "manner", "name", "plan", "road", "row", "stand", "table"] ++ List.map V.str ["text", "short", "many"])):=e10 ▸ keepE k_p3_9 hp10
  have k_p8_10 : H10 p8 = some (.lst [.bl (decide (8 = t)),.bl (decide (3 = t)),.bl (decide (2 = t)),.bl (decide (4 = t)),.bl (decide (9 = t)),.bl (decide (13 = t)),.bl (decide (7 = t)),.bl (decide (6 = t)),.bl (decide (12 = t))]):=e10 ▸ keepE k_p8_9 hp10
  rw [show upd H9 p10 (.lst ([.bl (decide (8 = t)),.bl (decide (3 = t)),.bl (decide (2 = t)),.bl (decide (4 = t)),.bl (decide (9 = t)),.bl (decide (13 = t)),.bl (decide (7 = t)),.bl (decide (6 = t)),.bl (decide (12 = t))] ++ [.bl (decide (5 = t)),.bl (decide (1 = t)),.bl (decide (11 = t))])) = H10 from e10]
  refine ⟨_,rfl,?_⟩
  refine ⟨_,rfl,e,_,_,_,_,decide (14 = t),rfl,rfl,hE10,T0.xc,T0.k 14 (by decide) (by decide),?_⟩
  refine ⟨_,rfl,e,_,_,_,_,decide (10 = t),rfl,rfl,hE10,T0.xc,T0.k 10 (by decide) (by decide),?_⟩
  refine ⟨by first | decide | exact small1000 (by simp),fun p11 hp11=>?_⟩
  obtain ⟨H11,e11⟩ : ∃ H11,upd H10 p11 (.lst [.bl (decide (14 = t)),.bl (decide (10 = t))]) = H11:=⟨_,rfl⟩
  have hE11 : H11 e = some (.ext (IsXD e (c t) dv)):=e11 ▸ keepE hE10 hp11
  have sm11 : Same H H11:=e11 ▸ same_add sm10 hp11
  have k_p11_11 : H11 p11 = some (.lst [.bl (decide (14 = t)),.bl (decide (10 = t))]):=e11 ▸ upd_same
  have k_p3_11 : H11 p3 = some (.lst (List.map V.str ["book", "deed", "house", "letter", "manner", "name", "plan", "road", "row", "stand", "table"] ++ List.map V.str ["text", "short", "many"])):=e11 ▸ keepE k_p3_10 hp11
  have k_p10_11 : H11 p10 = some (.lst [.bl (decide (8 = t)),.bl (decide (3 = t)),.bl (decide (2 = t)),.bl (decide (4 = t)),.bl (decide (9 = t)),.bl (decide (13 = t)),.bl (decide (7 = t)),.bl (decide (6 = t)),.bl (decide (12 = t)),.bl (decide (5 = t)),.bl (decide (1 = t)),.bl (decide (11 = t))]):=e11 ▸ keepE k_p10_10 hp11
  rw [show upd H10 p11 (.lst (_)) = H11 from e11]
  refine ⟨_,_,_,_,rfl,rfl,k_p10_11,k_p11_11,(by first | decide | exact small1000 (by simp)),fun p12 hp12=>?_⟩
  obtain ⟨H12,e12⟩ : ∃ H12,upd H11 p12 (.lst [.bl (decide (8 = t)),.bl (decide (3 = t)),.bl (decide (2 = t)),.bl (decide (4 = t)),.bl (decide (9 = t)),.bl (decide (13 = t)),.bl (decide (7 = t)),.bl (decide (6 = t)),.bl (decide (12 = t)),.bl (decide (5 = t)),.bl (decide (1 = t)),.bl (decide (11 = t)),.bl (decide (14 = t)),.bl (decide (10 = t))]) = H12:=⟨_,rfl⟩
  have hE12 : H12 e = some (.ext (IsXD e (c t) dv)):=e12 ▸ keepE hE11 hp12
  have sm12 : Same H H12:=e12 ▸ same_add sm11 hp12
  have k_p12_12 : H12 p12 = some (.lst [.bl (decide (8 = t)),.bl (decide (3 = t)),.bl (decide (2 = t)),.bl (decide (4 = t)),.bl (decide (9 = t)),.bl (decide (13 = t)),.bl (decide (7 = t)),.bl (decide (6 = t)),.bl (decide (12 = t)),.bl (decide (5 = t)),.bl (decide (1 = t)),.bl (decide (11 = t)),.bl (decide (14 = t)),.bl (decide (10 = t))]):=e12 ▸ upd_same
  have k_p3_12 : H12 p3 = some (.lst (List.map V.str ["book", "deed", "house", "letter", "manner", "name", "plan", "road", "row", "stand", "table"] ++ List.map V.str ["text", "short", "many"])):=e12 ▸ keepE k_p3_11 hp12
  have k_p10_12 : H12 p10 = some (.lst [.bl (decide (8 = t)),.bl (decide (3 = t)),.bl (decide (2 = t)),.bl (decide (4 = t)),.bl (decide (9 = t)),.bl (decide (13 = t)),.bl (decide (7 = t)),.bl (decide (6 = t)),.bl (decide (12 = t)),.bl (decide (5 = t)),.bl (decide (1 = t)),.bl (decide (11 = t))]):=e12 ▸ keepE k_p10_11 hp12
  rw [show upd H11 p12 (.lst ([.bl (decide (8 = t)),.bl (decide (3 = t)),.bl (decide (2 = t)),.bl (decide (4 = t)),.bl (decide (9 = t)),.bl (decide (13 = t)),.bl (decide (7 = t)),.bl (decide (6 = t)),.bl (decide (12 = t)),.bl (decide (5 = t)),.bl (decide (1 = t)),.bl (decide (11 = t))] ++ [.bl (decide (14 = t)),.bl (decide (10 = t))])) = H12 from e12]
  simp only [kdL,List.mem_cons,Prod.mk.injEq,List.not_mem_nil,or_false] at hm
  rcases hm with ⟨rfl,rfl⟩
  · refine ⟨_,rfl,.inl ⟨rfl,_,.inl (.inl k_p12_12)⟩,_,[false,false,false,false,false,false,true,false,false,false,false,false,false,false],rfl,rfl,k_p12_12,rfl,_,rfl,iteF ?_⟩
    refine ⟨_,rfl,e,_,_,_,_,true,rfl,rfl,hE12,T0.xc,W0,_,rfl,iteF ?_⟩
    refine ⟨_,rfl,e,_,_,_,_,true,rfl,rfl,hE12,T0.xc,T0.ve,_,rfl,iteF ?_⟩
    refine ⟨_,rfl,?_⟩
    refine ⟨_,rfl,.inl ⟨rfl,_,.inl (.inl k_p12_12)⟩,_,[false,false,false,false,false,false,true,false,false,false,false,false,false,false],6,rfl,rfl,k_p12_12,by decide,rfl,noB _ _ (by decide) (by decide),?_⟩
    refine ⟨_,_,_,_,rfl,rfl,.inl (.inl k_p3_12),rfl,?_⟩
    exact hQ _ sm12
def m__law_ahow : MS := (mSeqS (mIfS (toB (mOp oEq (mCallF 2 F__law_adigit (mCons (mVar 0) (mCons (mC (.int 8)) mNil))) (mC (.int 7)))) (mRet (mOp (oI fun a b => .int (a - b)) (mOp oPow (mC (.int 10)) (mC (.int 6))) (mCallF 2 F__law_adigit (mCons (mVar 0) (mCons (mC (.int 9)) mNil))))) mNext)
    (mRet (mOp oAdd (mC (.int 1)) (mCallF 2 F__law_adigit (mCons (mVar 0) (mCons (mVar 1) mNil))))))
def F__law_ahow : FN:=callF m__law_ahow 2
theorem sc__law_ahow : FnScope ["tape", "few"] ["tape", "few"] (defScope s__law_ahow):=⟨rfl,rfl,rfl,by decide +kernel,rfl,by decide +kernel,by decide +kernel⟩
theorem ok__law_ahow {f : Addr} {fd : FuncData} (F : Fun K "_law_ahow" "_law_ahow" s__law_ahow f fd) (T : Txt mg)  (D__law_adigit : DefS P w K mg base 1 "_law_adigit" 2 F__law_adigit) : FnOk P w K mg base (CXD P w) 2 f fd ["tape", "few"] (spF mg 2 F__law_ahow):=by
  refine fun_ok2 (k:=1) (m:=m__law_ahow) F sc__law_ahow rfl rfl rfl fun cdv A outer s H E hr=>?_
  exact (sb_cons (ss_if (st_cmp (os_eq hr.units) (se_call D__law_adigit (hr.mono (by decide)) pass_onD rfl (sa_cons (se_var 0) (sa_cons se_int sa_nil))) se_int) (sb_one (ss_ret (se_op os_sub (se_op os_pow se_int se_int) (se_call D__law_adigit (hr.mono (by decide)) pass_onD rfl (sa_cons (se_var 0) (sa_cons se_int sa_nil)))))) sb_nil)
    (sb_one (ss_ret (se_op os_add se_int (se_call D__law_adigit (hr.mono (by decide)) pass_onD rfl (sa_cons (se_var 0) (sa_cons (se_var 1) sa_nil)))))))
def e__law_aquestion_1 : ME:=(mOp (oI fun a b=>.int (a - b)) (mCallF 2 F__law_ahow (mCons (mVar 1) (mCons (mC (.int 10)) mNil))) (mC (.int 1)))
def b__law_aquestion_3 : MS:=(mIfS (tAndM (toB (mOp oNe (mVar 9) (mVar 10))) (toB (mOp oLt (mCallF 2 F__law_adigit (mCons (mVar 0) (mCons (mC (.int 4)) mNil))) (mVar 5)))) (mExpr (mBM mtAppend (mVar 8) (mCons (mTup (mCons (mVar 9) (mCons (mVar 10) (mCons (mCallF 2 F__law_ahow (mCons (mVar 0) (mCons (mC (.int 5)) mNil))) mNil)))) mNil))) mNext)
def b__law_aquestion_2 : MS:=(mFor (gaName 10) (mRange1 (mCons (mVar 2) mNil)) b__law_aquestion_3)
def b__law_aquestion_1 : MS := (mSeqS (mSet 8 (mTrk (mLstN mNil)))
    (mSeqS (mFor (gaName 9) (mRange1 (mCons (mVar 2) mNil)) b__law_aquestion_2)
    (mExpr (mBM mtAppend (mVar 6) (mCons (mCall cTuple (mCons (mVar 8) mNil)) mNil)))))
def b__law_aquestion_4 : MS:=(mExpr (mBM mtAppend (mVar 11) (mCons (mTup (mCons (mCallF 2 F__law_adigit (mCons (mVar 0) (mCons (mOp oAdd (mVar 4) (mC (.int 1))) mNil))) (mCons (mCallF 2 F__law_adigit (mCons (mVar 0) (mCons (mVar 2) mNil))) (mCons (mCallF 2 F__law_ahow (mCons (mVar 0) (mCons (mC (.int 7)) mNil))) mNil)))) mNil)))
def m__law_aquestion : MS := (mSeqS (mSet 2 (mOp oAdd (mC (.int 1)) (mCallF 2 F__law_adigit (mCons (mVar 0) (mCons (mVar 1) mNil)))))
    (mSeqS (mSet 3 (mCall cTuple (mCons (mVal (mCompN [none,some 0] (gaName 0) (mRange1 (mCons (mVar 2) mNil)) mTrue e__law_aquestion_1)) mNil)))
    (mSeqS (mSet 4 (mCallF 2 F__law_adigit (mCons (mVar 0) (mCons (mOp oAdd (mVar 1) (mC (.int 1))) mNil))))
    (mSeqS (mSet 5 (mOp oAdd (mC (.int 1)) (mCallF 2 F__law_adigit (mCons (mVar 0) (mCons (mC (.int 3)) mNil)))))
    (mSeqS (mSet 6 (mTrk (mLstN mNil)))
    (mSeqS (mFor (gaName 7) (mRange1 (mCons (mVar 4) mNil)) b__law_aquestion_1)
    (mSeqS (mSet 11 (mTrk (mLstN mNil)))
    (mSeqS (mFor (gaName 12) (mRange1 (mCons (mCallF 2 F__law_adigit (mCons (mVar 0) (mCons (mC (.int 6)) mNil))) mNil)) b__law_aquestion_4)
    (mRet (mTup (mCons (mVar 3) (mCons (mCall cTuple (mCons (mVar 6) mNil)) (mCons (mCall cTuple (mCons (mVar 11) mNil)) mNil)))))))))))))
def F__law_aquestion : FN:=callF m__law_aquestion 13
theorem sc__law_aquestion : FnScope ["tape", "most", "size", "start", "rounds", "often", "roads", "turn", "told", "i", "j", "takings", "k"] ["tape", "most"] (defScope s__law_aquestion):=⟨rfl,rfl,rfl,by decide +kernel,rfl,by decide +kernel,by decide +kernel⟩
theorem ok__law_aquestion {f : Addr} {fd : FuncData} (F : Fun K "_law_aquestion" "_law_aquestion" s__law_aquestion f fd) (T : Txt mg)  (D__law_adigit : DefS P w K mg base 1 "_law_adigit" 2 F__law_adigit) (D__law_ahow : DefS P w K mg base 2 "_law_ahow" 2 F__law_ahow) : FnOk P w K mg base (CXD P w) 3 f fd ["tape", "most"] (spF mg 2 F__law_aquestion):=by
  refine fun_ok2 (k:=2) (m:=m__law_aquestion) F sc__law_aquestion rfl rfl rfl fun cdv A outer s H E hr=>?_
  exact (sb_cons (ss_set 2 sc__law_aquestion.nd (se_op os_add se_int (se_call D__law_adigit (hr.mono (by decide)) pass_onD rfl (sa_cons (se_var 0) (sa_cons (se_var 1) sa_nil)))))
    (sb_cons (ss_set 3 sc__law_aquestion.nd (se_callT cs_tuple rfl T.b_tuple boot_tuple (sa_cons (se_val (sn_comp [none,some 0] ["i", "tape"] rfl (si_range1 rfl T.b_range (sa_cons (se_var 2) sa_nil)) (fun _ _ _ _ _=>(sg_name (i:=0) (show (["i", "tape"] : List Str).Nodup by decide +kernel))) (fun _ _ _ _ _=>(se_op os_sub (se_call D__law_ahow (hr.mono (by decide)) pass00D rfl (sa_cons (se_var 1) (sa_cons se_int sa_nil))) se_int)) (fun _ _ _ _ _=>sts_nil) free_name)) sa_nil)))
    (sb_cons (ss_set 4 sc__law_aquestion.nd (se_call D__law_adigit (hr.mono (by decide)) pass_onD rfl (sa_cons (se_var 0) (sa_cons (se_op os_add (se_var 1) se_int) sa_nil))))
    (sb_cons (ss_set 5 sc__law_aquestion.nd (se_op os_add se_int (se_call D__law_adigit (hr.mono (by decide)) pass_onD rfl (sa_cons (se_var 0) (sa_cons se_int sa_nil)))))
    (sb_cons (ss_set 6 sc__law_aquestion.nd (se_trk (sn_lst sa_nil)))
    (sb_cons (ss_for PassesOwn.leaving rfl (si_range1 rfl T.b_range (sa_cons (se_var 4) sa_nil)) (sg_name (i:=7) sc__law_aquestion.nd) (sb_cons (ss_set 8 sc__law_aquestion.nd (se_trk (sn_lst sa_nil)))
    (sb_cons (ss_for PassesOwn.leaving rfl (si_range1 rfl T.b_range (sa_cons (se_var 2) sa_nil)) (sg_name (i:=9) sc__law_aquestion.nd) (sb_one (ss_for PassesOwn.leaving rfl (si_range1 rfl T.b_range (sa_cons (se_var 2) sa_nil)) (sg_name (i:=10) sc__law_aquestion.nd) (sb_one (ss_if (SimW.t (sw_and (st_cmp (os_ne hr.units) (se_var 9) (se_var 10)) (sw_and1 (st_cmp (os_lt hr.units) (se_call D__law_adigit (hr.mono (by decide)) pass_onD rfl (sa_cons (se_var 0) (sa_cons se_int sa_nil))) (se_var 5))))) (sb_one (ss_expr (se_append (se_var 8) (sa_cons (se_tup (sa_cons (se_var 9) (sa_cons (se_var 10) (sa_cons (se_call D__law_ahow (hr.mono (by decide)) pass_onD rfl (sa_cons (se_var 0) (sa_cons se_int sa_nil))) sa_nil)))) sa_nil)))) sb_nil)))))
    (sb_one (ss_expr (se_append (se_var 6) (sa_cons (se_callT cs_tuple rfl T.b_tuple boot_tuple (sa_cons (se_var 8) sa_nil)) sa_nil)))))))
    (sb_cons (ss_set 11 sc__law_aquestion.nd (se_trk (sn_lst sa_nil)))
    (sb_cons (ss_for PassesOwn.leaving rfl (si_range1 rfl T.b_range (sa_cons (se_call D__law_adigit (hr.mono (by decide)) pass_onD rfl (sa_cons (se_var 0) (sa_cons se_int sa_nil))) sa_nil)) (sg_name (i:=12) sc__law_aquestion.nd) (sb_one (ss_expr (se_append (se_var 11) (sa_cons (se_tup (sa_cons (se_call D__law_adigit (hr.mono (by decide)) pass_onD rfl (sa_cons (se_var 0) (sa_cons (se_op os_add (se_var 4) se_int) sa_nil))) (sa_cons (se_call D__law_adigit (hr.mono (by decide)) pass_onD rfl (sa_cons (se_var 0) (sa_cons (se_var 2) sa_nil))) (sa_cons (se_call D__law_ahow (hr.mono (by decide)) pass_onD rfl (sa_cons (se_var 0) (sa_cons se_int sa_nil))) sa_nil)))) sa_nil)))))
    (sb_one (ss_ret (se_tup (sa_cons (se_var 3) (sa_cons (se_callT cs_tuple rfl T.b_tuple boot_tuple (sa_cons (se_var 6) sa_nil)) (sa_cons (se_callT cs_tuple rfl T.b_tuple boot_tuple (sa_cons (se_var 11) sa_nil)) sa_nil))))))))))))))
def b__law_aweight_1 : MS:=(mIfS (toB (mOp (oIn true) (mTup (mCons (mVar 6) (mCons (mC (.int 0)) mNil))) (mVar 1))) (mSet 5 (mOp oAdd (mVar 5) (mOp oIx (mVar 2) (mVar 6)))) mNext)
def b__law_aweight_3 : MS:=(mIfS (tAndM (toB (mOp (oIn false) (mTup (mCons (mVar 8) (mCons (mVar 7) mNil))) (mVar 1))) (toB (mOp (oIn true) (mTup (mCons (mVar 9) (mCons (mOp oAdd (mVar 7) (mC (.int 1))) mNil))) (mVar 1)))) (mSet 5 (mOp oAdd (mVar 5) (mVar 10))) mNext)
def b__law_aweight_2 : MS:=(mFor (gaTup (gaCons (gaName 8) (gaCons (gaName 9) (gaCons (gaName 10) gaNil)))) (mSeq (mOp oIx (mVar 3) (mVar 7))) b__law_aweight_3)
def e__law_aweight_1 : ME:=(mOp oIx (mVar 0) (mC (.int 2)))
def t__law_aweight_1 : MT:=(toB (mOp (oIn false) (mTup (mCons (mOp oIx (mVar 0) (mC (.int 1))) (mCons (mOp oIx (mVar 0) (mC (.int 0))) mNil))) (mVar 1)))
def m__law_aweight : MS := (mSeqS (mAsg (gaTup (gaCons (gaName 2) (gaCons (gaName 3) (gaCons (gaName 4) gaNil)))) (mVar 0))
    (mSeqS (mSet 5 (mC (.int 0)))
    (mSeqS (mFor (gaName 6) (mRange1 (mCons (mCall cLen (mCons (mVar 2) mNil)) mNil)) b__law_aweight_1)
    (mSeqS (mFor (gaName 7) (mRange1 (mCons (mCall cLen (mCons (mVar 3) mNil)) mNil)) b__law_aweight_2)
    (mRet (mOp oAdd (mVar 5) (mCall (cInts fun ns=>some (.int ns.sum)) (mCons (mVal (mCompN [none,some 1] (gaName 0) (mSeq (mVar 4)) t__law_aweight_1 e__law_aweight_1)) mNil))))))))
def F__law_aweight : FN:=callF m__law_aweight 11
theorem sc__law_aweight : FnScope ["question", "cut", "start", "roads", "takings", "total", "house", "turn", "i", "j", "most"] ["question", "cut"] (defScope s__law_aweight):=⟨rfl,rfl,rfl,by decide +kernel,rfl,by decide +kernel,by decide +kernel⟩
theorem ok__law_aweight {f : Addr} {fd : FuncData} (F : Fun K "_law_aweight" "_law_aweight" s__law_aweight f fd) (T : Txt mg)   : FnOk P w K mg base (CXD P w) 1 f fd ["question", "cut"] (spF mg 2 F__law_aweight):=by
  refine fun_ok2 (k:=0) (m:=m__law_aweight) F sc__law_aweight rfl rfl rfl fun cdv A outer s H E hr=>?_
  exact (sb_cons (ss_asg (se_var 0) (sg_tup rfl (sgs_cons (sg_name (i:=2) sc__law_aweight.nd) (sgs_cons (sg_name (i:=3) sc__law_aweight.nd) (sgs_cons (sg_name (i:=4) sc__law_aweight.nd) sgs_nil)))))
    (sb_cons (ss_set 5 sc__law_aweight.nd se_int)
    (sb_cons (ss_for PassesOwn.leaving rfl (si_range1 rfl T.b_range (sa_cons (se_callB cs_len rfl T.b_len PySem.boot_len (sa_cons (se_var 2) sa_nil)) sa_nil)) (sg_name (i:=6) sc__law_aweight.nd) (sb_one (ss_if (st_cmp (os_notin hr.units) (se_tup (sa_cons (se_var 6) (sa_cons se_int sa_nil))) (se_var 1)) (sb_one (ss_set 5 sc__law_aweight.nd (se_op os_add (se_var 5) (se_ix (se_var 2) (se_var 6))))) sb_nil)))
    (sb_cons (ss_for PassesOwn.leaving rfl (si_range1 rfl T.b_range (sa_cons (se_callB cs_len rfl T.b_len PySem.boot_len (sa_cons (se_var 3) sa_nil)) sa_nil)) (sg_name (i:=7) sc__law_aweight.nd) (sb_one (ss_for PassesOwn.leaving rfl (si_seq (se_ix (se_var 3) (se_var 7))) (sg_tup rfl (sgs_cons (sg_name (i:=8) sc__law_aweight.nd) (sgs_cons (sg_name (i:=9) sc__law_aweight.nd) (sgs_cons (sg_name (i:=10) sc__law_aweight.nd) sgs_nil)))) (sb_one (ss_if (SimW.t (sw_and (st_cmp (os_in hr.units) (se_tup (sa_cons (se_var 8) (sa_cons (se_var 7) sa_nil))) (se_var 1)) (sw_and1 (st_cmp (os_notin hr.units) (se_tup (sa_cons (se_var 9) (sa_cons (se_op os_add (se_var 7) se_int) sa_nil))) (se_var 1))))) (sb_one (ss_set 5 sc__law_aweight.nd (se_op os_add (se_var 5) (se_var 10)))) sb_nil)))))
    (sb_one (ss_ret (se_op os_add (se_var 5) (se_callB (cs_sum rfl) rfl T.b_sum boot_sum (sa_cons (se_val (sn_comp [none,some 1] ["taking", "cut"] rfl (si_seq (se_var 4)) (fun _ _ _ _ _=>(sg_name (i:=0) (show (["taking", "cut"] : List Str).Nodup by decide +kernel))) (fun _ _ _ _ _=>(se_ix (se_var 0) se_int)) (fun _ _ _ _ _=>(sts_one (st_cmp (os_in hr.units) (se_tup (sa_cons (se_ix (se_var 0) se_int) (sa_cons (se_ix (se_var 0) se_int) sa_nil))) (se_var 1)))) free_name)) sa_nil)))))))))
def e__law_acut_1 : ME:=(mTup (mCons (mVar 1) (mCons (mVar 0) mNil)))
def b__law_acut_1 : MS := (mSeqS (mSet 5 (mCallF 2 F__law_adigit (mCons (mVar 0) (mCons (mOp oAdd (mVar 2) (mC (.int 2))) mNil))))
    (mExpr (mBM mtExtend (mVar 3) (mCons (mVal (mCompN [none,some 4] (gaName 0) (mRange2 (mCons (mVar 5) (mCons (mOp oAdd (mVar 2) (mC (.int 1))) mNil))) mTrue e__law_acut_1)) mNil))))
def m__law_acut : MS := (mSeqS (mSet 2 (mCall cLen (mCons (mOp oIx (mVar 1) (mC (.int 1))) mNil)))
    (mSeqS (mSet 3 (mTrk (mLstN mNil)))
    (mSeqS (mFor (gaName 4) (mRange1 (mCons (mCall cLen (mCons (mOp oIx (mVar 1) (mC (.int 0))) mNil)) mNil)) b__law_acut_1)
    (mRet (mVar 3)))))
def F__law_acut : FN:=callK m__law_acut 6
theorem sc__law_acut : FnScope ["tape", "question", "rounds", "found", "house", "first"] ["tape", "question"] (defScope s__law_acut):=⟨rfl,rfl,rfl,by decide +kernel,rfl,by decide +kernel,by decide +kernel⟩
theorem ok__law_acut {f : Addr} {fd : FuncData} (F : Fun K "_law_acut" "_law_acut" s__law_acut f fd) (T : Txt mg)  (D__law_adigit : DefS P w K mg base 1 "_law_adigit" 2 F__law_adigit) : FnOk P w K mg base (CXD P w) 2 f fd ["tape", "question"] (spF mg 2 F__law_acut):=by
  refine fun_ok2K (k:=1) (m:=m__law_acut) F sc__law_acut rfl rfl rfl fun cdv A outer s H E hr=>?_
  exact (sb_cons (ss_set 2 sc__law_acut.nd (se_callB cs_len rfl T.b_len PySem.boot_len (sa_cons (se_ix (se_var 1) se_int) sa_nil)))
    (sb_cons (ss_set 3 sc__law_acut.nd (se_trk (sn_lst sa_nil)))
    (sb_cons (ss_for PassesOwn.leaving rfl (si_range1 rfl T.b_range (sa_cons (se_callB cs_len rfl T.b_len PySem.boot_len (sa_cons (se_ix (se_var 1) se_int) sa_nil)) sa_nil)) (sg_name (i:=4) sc__law_acut.nd) (sb_cons (ss_set 5 sc__law_acut.nd (se_call D__law_adigit (hr.mono (by decide)) pass_onD rfl (sa_cons (se_var 0) (sa_cons (se_op os_add (se_var 2) se_int) sa_nil))))
    (sb_one (ss_expr (se_extend (se_var 3) (sa_cons (se_val (sn_comp [none,some 4] ["moment", "house"] rfl (si_range2 rfl T.b_range (sa_cons (se_var 5) (sa_cons (se_op os_add (se_var 2) se_int) sa_nil))) (fun _ _ _ _ _=>(sg_name (i:=0) (show (["moment", "house"] : List Str).Nodup by decide +kernel))) (fun _ _ _ _ _=>(se_tup (sa_cons (se_var 1) (sa_cons (se_var 0) sa_nil)))) (fun _ _ _ _ _=>sts_nil) free_name)) sa_nil))))))
    (sb_one (ss_ret (se_var 3))))))
def tb__law_acaught : MS:=(mIfS (toB (mOp oEq (mVar 0) (mC (.int 0)))) (mExpr (mCallF 2 F_weight (mCons (mVar 1) (mCons (mVar 2) mNil)))) (mIfS (toB (mOp oEq (mVar 0) (mC (.int 1)))) (mExpr (mCallF 2 F_is_plan (mCons (mVar 1) (mCons (mVar 2) mNil)))) (mIfS (toB (mOp oEq (mVar 0) (mC (.int 2)))) (mExpr (mCallF 1 F_best (mCons (mVar 1) mNil))) (mExpr (mCallF 1 F_first_served (mCons (mVar 1) mNil))))))
def F__law_acaught : FN:=fun ps st=>match tb__law_acaught (ps.map some ++ [some .non,none]) st with
  | .nx Γ st1=>(match (Γ : Gam)[3]? with | some (some PV.non)=>.ok (.str "") st1 | _=>.stuck)
  | .exc x st1=>if x.cls = "NoPlan" then .ok (.str "plan") st1 else .stuck
  | _=>.stuck
theorem sc__law_acaught : FnScope ["way", "question", "thing", "caught", "e"] ["way", "question", "thing"] (defScope s__law_acaught):=⟨rfl,rfl,rfl,by decide +kernel,rfl,by decide +kernel,by decide +kernel⟩
theorem ok__law_acaught {f : Addr} {fd : FuncData} {c : Nat -> Addr} (F : Fun K "_law_acaught" "_law_acaught" s__law_acaught f fd) (T : Txt mg) (Nm : Nms mg c) (TT : ∀ t wd,(t,wd) ∈ kdL -> TgtS K c t /\ PySem.W.kitOne K (.ref (c t)) (.ref (c 0)) = some true) (D_weight : DefS P w K mg base 9 "weight" 2 F_weight) (D_is_plan : DefS P w K mg base 9 "is_plan" 2 F_is_plan) (D_best : DefS P w K mg base 9 "best" 1 F_best) (D_first_served : DefS P w K mg base 9 "first_served" 1 F_first_served) (D__law_akind : DefX P w K mg base 1 "_law_akind" ["caught"] (spKd c)) : FnOk P w K mg base (CXD P w) 10 f fd ["way", "question", "thing"] (spF mg 3 F__law_acaught):=by
  obtain ⟨fX,fdX,FX,mX,kX,bX⟩:=D__law_akind.ex
  refine Fun.okD (k:=9) F sc__law_acaught (fun vs H Q E h=>h.1) fun cdv A outer s H vs Q E hr hsp=>?_
  obtain ⟨hl,ρ,st0,pvs,R,rl,hA⟩:=hsp
  refine ⟨_,pss_cons (ps_set (i:=3) sc__law_acaught.nd rfl (Or.inl rfl) pe_non)
      (pss_cons ps_w
      (pss_cons (ps_if (pt_cmpR op_isN (pv 3) pe_non (nomark _)) (pss_one (ps_ret pe_str)) pss_nil)
      (pss_one (ps_ret (pe_call (x := "_law_akind") (E:=E) FX (hr.mono (by decide)) (by rfl) mX kX bX .nil pass_onD (pa_cons (pv 3) pa_nil)))))),?_⟩
  match vs,hl with
  | [v0,v1,v2],hl=>
  obtain ⟨q0,q1,q2,e,r0,r1,r2⟩:=repL_3' rl
  subst e
  have Ge : EnvR H ρ [some q0,some q1,some q2,some .non,none] [some v0,some v1,some v2,some .non,none]:=⟨rfl,fun i p e=>match i,e with
    | 0,e=>by cases e; exact ⟨_,rfl,r0⟩
    | 1,e=>by cases e; exact ⟨_,rfl,r1⟩
    | 2,e=>by cases e; exact ⟨_,rfl,r2⟩
    | 3,e=>by cases e; exact ⟨_,rfl,rfl⟩
    | 4,e=>by cases e
    | _ + 5,e=>by cases e⟩
  refine try_run (mb:=tb__law_acaught) (Γ:=[some q0,some q1,some q2,some .non,none]) (i:=4) (cn := "WharfError") (ts:=fun _=>tAsg (tVar 4) (gName 3)) (fun _ _=>(sb_one (ss_if (st_cmp (os_eq hr.units) (se_var 0) se_int) (sb_one (ss_expr (se_call D_weight (hr.mono (by decide)) pass_try rfl (sa_cons (se_var 1) (sa_cons (se_var 2) sa_nil))))) (sb_one (ss_if (st_cmp (os_eq hr.units) (se_var 0) se_int) (sb_one (ss_expr (se_call D_is_plan (hr.mono (by decide)) pass_try rfl (sa_cons (se_var 1) (sa_cons (se_var 2) sa_nil))))) (sb_one (ss_if (st_cmp (os_eq hr.units) (se_var 0) se_int) (sb_one (ss_expr (se_call D_best (hr.mono (by decide)) pass_try rfl (sa_cons (se_var 1) sa_nil)))) (sb_one (ss_expr (se_call D_first_served (hr.mono (by decide)) pass_try rfl (sa_cons (se_var 1) sa_nil))))))))))) sc__law_acaught.nd rfl rfl (fun e=>pss_one (ps_set (i:=3) sc__law_acaught.nd rfl (Or.inl rfl) (pv 4))) Nm.m0 rfl (by intro b z; exact absurd (show b ∈ ([] : List Addr) from z) (by simp)) rfl rfl (by decide) R Ge ?_
  have hA : Acc mg E H ρ (QV Q) (match tb__law_acaught [some q0,some q1,some q2,some .non,none] st0 with
    | .nx Γ st1=>(match (Γ : Gam)[3]? with | some (some PV.non)=>.ok (.str "") st1 | _=>.stuck)
    | .exc x st1=>if x.cls = "NoPlan" then .ok (.str "plan") st1 else .stuck
    | _=>.stuck):=hA
  cases hr : tb__law_acaught [some q0,some q1,some q2,some .non,none] st0 with
  | nx Γ1 st1=>
    rw [hr] at hA
    dsimp only at hA
    split at hA
    · rename_i eΓ
      intro σ' H' ρ' x' R' G'
      obtain ⟨v,e3,rv⟩:=G'.2 3 _ eΓ
      have rv : v = .non:=rv
      subst rv
      exact ⟨.non,e3,rfl,_,rfl,iteT (hA H' ρ' x' R' _ rfl)⟩
    · exact hA.elim
  | exc x st1=>
    rw [hr] at hA
    dsimp only at hA
    by_cases hx7 : x.cls = "NoPlan"
    · rw [if_pos hx7] at hA
      intro C dv H1 ρ1 hm x1 R1 fs
      have hm : mg x.cls = some (.ref C):=hm
      rw [hx7,Nm.m7] at hm
      cases hm
      refine ⟨_,rfl,(TT 7 "plan" (by simp [kdL])).1.ex,fun e he σ1 hl1=>?_⟩
      have x2 : Ext H1 ρ1 (upd H1 e (.ext (IsXD e (c 7) dv))) ρ1:=Ext.add he
      have R2:=R1.add (o:=.ext (IsXD e (c 7) dv)) he
      match σ1,hl1 with
      | [_,_,_,_,_],_=>
      refine ⟨_,rfl,_,rfl,rfl,_,rfl,iteF ?_⟩
      exact ⟨_,rfl,e,dv,7, "plan",rfl,by simp [kdL],upd_same,fun H2 sm=>hA _ _ ((x1.trans x2).trans (Ext.same sm)) (R2.same sm) _ rfl⟩
    · rw [if_neg hx7] at hA
      exact hA.elim
  | _=>rw [hr] at hA; exact hA.elim
def e__law_ano_cuts_1 : ME:=(mVar 0)
def t__law_ano_cuts_1 : MT:=(toB (mOp oLt (mOp oIx (mVar 0) (mC (.int 1))) (mVar 1)))
def e__law_ano_cuts_2 : ME:=(mVar 0)
def t__law_ano_cuts_2 : MT:=(toB (mOp oLt (mOp oIx (mVar 0) (mC (.int 1))) (mVar 1)))
def m__law_ano_cuts : MS := (mSeqS (mSet 2 (mCall cLen (mCons (mOp oIx (mVar 0) (mC (.int 0))) mNil)))
    (mSeqS (mSet 3 (mCall cLen (mCons (mOp oIx (mVar 0) (mC (.int 1))) mNil)))
    (mSeqS (mSet 4 (mTrk (mLstN (mCons (mLst (mCons (mTup (mCons (mVar 2) (mCons (mVar 3) mNil))) mNil)) (mCons (mLst (mCons (mTup (mCons (mNeg (mC (.int 1))) (mCons (mVar 3) mNil))) mNil)) (mCons (mLst (mCons (mTup (mCons (mC (.int 0)) (mCons (mOp oAdd (mVar 3) (mC (.int 1))) mNil))) mNil)) (mCons (mLst (mCons (mTup (mCons (mC (.int 0)) (mCons (mNeg (mC (.int 1))) mNil))) mNil)) (mCons (mOp oAdd (mVar 1) (mLst (mCons (mTup (mCons (mVar 2) (mCons (mC (.int 0)) mNil))) mNil))) mNil))))))))
    (mSeqS (mIfS (toB (mOp (oI fun a b=>.bl (decide (b < a))) (mVar 3) (mC (.int 0)))) (mSet 4 (mTrk (mAddN (mVar 4) (mLst (mCons (mLst (mCons (mTup (mCons (mC (.int 0)) (mCons (mC (.int 0)) mNil))) mNil)) (mCons (mLst (mCons (mTup (mCons (mOp (oI fun a b=>.int (a - b)) (mVar 2) (mC (.int 1))) (mCons (mOp (oI fun a b=>.int (a - b)) (mVar 3) (mC (.int 1))) mNil))) mNil)) mNil)))))) mNext)
    (mSeqS (mIfS (toB (mOp oNe (mVar 1) (mLst mNil))) (mSet 4 (mTrk (mAddN (mVar 4) (mLst (mCons (mOp oAdd (mVar 1) (mSl (mVar 1) mNoPart (mPart (mC (.int 1))))) (mCons (mOp oAdd (mSl (mVar 1) mNoPart (mPart (mC (.int 1)))) (mVar 1)) mNil)))))) mNext)
    (mSeqS (mIfS (toB (mOp (oI fun a b=>.bl (decide (b < a))) (mCall cLen (mCons (mVar 1) mNil)) (mC (.int 1)))) (mSet 4 (mTrk (mAddN (mVar 4) (mLst (mCons (mVal (mRevN (mVar 1) (mNeg (mC (.int 1))))) (mCons (mOp oAdd (mSl (mVar 1) (mPart (mC (.int 1))) mNoPart) (mSl (mVar 1) mNoPart (mPart (mC (.int 1))))) mNil)))))) mNext)
    (mSeqS (mIfS (toB (mOp oNe (mVal (mCompN [none,some 3] (gaName 0) (mSeq (mVar 1)) t__law_ano_cuts_1 e__law_ano_cuts_1)) (mLst mNil))) (mExpr (mBM mtAppend (mVar 4) (mCons (mVal (mCompN [none,some 3] (gaName 0) (mSeq (mVar 1)) t__law_ano_cuts_2 e__law_ano_cuts_2)) mNil))) mNext)
    (mRet (mVar 4)))))))))
def F__law_ano_cuts : FN:=callK m__law_ano_cuts 5
theorem sc__law_ano_cuts : FnScope ["question", "cut", "size", "rounds", "some"] ["question", "cut"] (defScope s__law_ano_cuts):=⟨rfl,rfl,rfl,by decide +kernel,rfl,by decide +kernel,by decide +kernel⟩
theorem ok__law_ano_cuts {f : Addr} {fd : FuncData} (F : Fun K "_law_ano_cuts" "_law_ano_cuts" s__law_ano_cuts f fd) (T : Txt mg)   : FnOk P w K mg base (CXD P w) 1 f fd ["question", "cut"] (spF mg 2 F__law_ano_cuts):=by
  refine fun_ok2K (k:=0) (m:=m__law_ano_cuts) F sc__law_ano_cuts rfl rfl rfl fun cdv A outer s H E hr=>?_
  exact (sb_cons (ss_set 2 sc__law_ano_cuts.nd (se_callB cs_len rfl T.b_len PySem.boot_len (sa_cons (se_ix (se_var 0) se_int) sa_nil)))
    (sb_cons (ss_set 3 sc__law_ano_cuts.nd (se_callB cs_len rfl T.b_len PySem.boot_len (sa_cons (se_ix (se_var 0) se_int) sa_nil)))
    (sb_cons (ss_set 4 sc__law_ano_cuts.nd (se_trk (sn_lst (sa_cons (se_lst (sa_cons (se_tup (sa_cons (se_var 2) (sa_cons (se_var 3) sa_nil))) sa_nil)) (sa_cons (se_lst (sa_cons (se_tup (sa_cons (se_neg se_int) (sa_cons (se_var 3) sa_nil))) sa_nil)) (sa_cons (se_lst (sa_cons (se_tup (sa_cons se_int (sa_cons (se_op os_add (se_var 3) se_int) sa_nil))) sa_nil)) (sa_cons (se_lst (sa_cons (se_tup (sa_cons se_int (sa_cons (se_neg se_int) sa_nil))) sa_nil)) (sa_cons (se_op os_add (se_var 1) (se_lst (sa_cons (se_tup (sa_cons (se_var 2) (sa_cons se_int sa_nil))) sa_nil))) sa_nil))))))))
    (sb_cons (ss_if (st_cmp os_gt (se_var 3) se_int) (sb_one (ss_set 4 sc__law_ano_cuts.nd (se_trk (sn_add (se_var 4) (se_lst (sa_cons (se_lst (sa_cons (se_tup (sa_cons se_int (sa_cons se_int sa_nil))) sa_nil)) (sa_cons (se_lst (sa_cons (se_tup (sa_cons (se_op os_sub (se_var 2) se_int) (sa_cons (se_op os_sub (se_var 3) se_int) sa_nil))) sa_nil)) sa_nil))))))) sb_nil)
    (sb_cons (ss_if (st_cmp (os_ne hr.units) (se_var 1) (se_lst sa_nil)) (sb_one (ss_set 4 sc__law_ano_cuts.nd (se_trk (sn_add (se_var 4) (se_lst (sa_cons (se_op os_add (se_var 1) (se_slice (se_var 1) so_none (so_some se_int))) (sa_cons (se_op os_add (se_slice (se_var 1) so_none (so_some se_int)) (se_var 1)) sa_nil))))))) sb_nil)
    (sb_cons (ss_if (st_cmp os_gt (se_callB cs_len rfl T.b_len PySem.boot_len (sa_cons (se_var 1) sa_nil)) se_int) (sb_one (ss_set 4 sc__law_ano_cuts.nd (se_trk (sn_add (se_var 4) (se_lst (sa_cons (se_val (sn_rev (se_var 1) (se_neg se_int))) (sa_cons (se_op os_add (se_slice (se_var 1) (so_some se_int) so_none) (se_slice (se_var 1) so_none (so_some se_int))) sa_nil))))))) sb_nil)
    (sb_cons (ss_if (st_cmp (os_ne hr.units) (se_val (sn_comp [none,some 3] ["place", "rounds"] rfl (si_seq (se_var 1)) (fun _ _ _ _ _=>(sg_name (i:=0) (show (["place", "rounds"] : List Str).Nodup by decide +kernel))) (fun _ _ _ _ _=>(se_var 0)) (fun _ _ _ _ _=>(sts_one (st_cmp (os_lt hr.units) (se_ix (se_var 0) se_int) (se_var 1)))) free_name)) (se_lst sa_nil)) (sb_one (ss_expr (se_append (se_var 4) (sa_cons (se_val (sn_comp [none,some 3] ["place", "rounds"] rfl (si_seq (se_var 1)) (fun _ _ _ _ _=>(sg_name (i:=0) (show (["place", "rounds"] : List Str).Nodup by decide +kernel))) (fun _ _ _ _ _=>(se_var 0)) (fun _ _ _ _ _=>(sts_one (st_cmp (os_lt hr.units) (se_ix (se_var 0) se_int) (se_var 1)))) free_name)) sa_nil)))) sb_nil)
    (sb_one (ss_ret (se_var 4))))))))))
def e_law_1 : ME:=(mTup (mCons (mVar 1) (mCons (mVar 0) mNil)))
def b_law_2 : MS:=(mExpr (mBM mtExtend (mVar 5) (mCons (mVal (mCompN [none,some 6] (gaName 0) (mRange1 (mCons (mOp oAdd (mCall cLen (mCons (mOp oIx (mVar 3) (mC (.int 1))) mNil)) (mC (.int 1))) mNil)) mTrue e_law_1)) mNil)))
def b_law_4 : MS:=(mIfS (toB (mOp oNe (mCallF 3 F__law_acaught (mCons (mC (.int 0)) (mCons (mVar 3) (mCons (mVar 10) mNil)))) (mC (.str "plan")))) (mRet (mC (.bl false))) mNext)
def b_law_3 : MS := (mSeqS (mSet 8 (mCall cList (mCons (mVar 7) mNil)))
    (mSeqS (mSet 9 (mCallF 2 F_weight (mCons (mVar 3) (mCons (mVar 8) mNil))))
    (mSeqS (mIfS (tOrM (tNotM (toB (mCallF 1 F__law_awhole (mCons (mVar 9) mNil)))) (tOrM (toB (mOp oNe (mVar 9) (mCallF 2 F__law_aweight (mCons (mVar 3) (mCons (mVar 7) mNil))))) (toB (mOp oNe (mVar 8) (mVar 7))))) (mRet (mC (.bl false))) mNext)
    (mFor (gaName 10) (mSeq (mCallF 2 F__law_ano_cuts (mCons (mVar 3) (mCons (mVar 7) mNil)))) b_law_4))))
def b_law_5 : MS:=(mIfS (toB (mOp oNe (mCallF 3 F__law_acaught (mCons (mVar 12) (mCons (mVar 11) (mCons (mVar 10) mNil)))) (mC (.str "plan")))) (mRet (mC (.bl false))) mNext)
def b_law_1 : MS := (mSeqS (mSet 2 (mCallF 2 F__law_atape (mCons (mVar 0) (mCons (mVar 1) mNil))))
    (mSeqS (mSet 3 (mCallF 2 F__law_aquestion (mCons (mVar 2) (mCons (mC (.int 4)) mNil))))
    (mSeqS (mSet 4 (mCallF 2 F__law_atape (mCons (mVar 0) (mCons (mOp oAdd (mVar 1) (mC (.int 1))) mNil))))
    (mSeqS (mSet 5 (mTrk (mLstN mNil)))
    (mSeqS (mFor (gaName 6) (mRange1 (mCons (mCall cLen (mCons (mOp oIx (mVar 3) (mC (.int 0))) mNil)) mNil)) b_law_2)
    (mSeqS (mFor (gaName 7) (mSeq (mLst (mCons (mCallF 2 F__law_acut (mCons (mVar 4) (mCons (mVar 3) mNil))) (mCons (mCallF 2 F__law_acut (mCons (mVar 4) (mCons (mVar 3) mNil))) (mCons (mCallF 2 F__law_acut (mCons (mVar 4) (mCons (mVar 3) mNil))) (mCons (mVar 5) (mCons (mLst mNil) mNil))))))) b_law_3)
    (mSeqS (mSet 11 (mTup (mCons (mOp oIx (mVar 3) (mC (.int 0))) (mCons (mOp oIx (mVar 3) (mC (.int 1))) (mCons (mOp oAdd (mOp oIx (mVar 3) (mC (.int 2))) (mTup (mCons (mTup (mCons (mC (.int 0)) (mCons (mC (.int 0)) (mCons (mC (.int 0)) mNil)))) mNil))) mNil)))))
    (mFor (gaTup (gaCons (gaName 12) (gaCons (gaName 10) gaNil))) (mSeq (mLst (mCons (mTup (mCons (mC (.int 0)) (mCons (mLst mNil) mNil))) (mCons (mTup (mCons (mC (.int 0)) (mCons (mLst (mCons (mTup (mCons (mC (.int 0)) (mCons (mC (.int 0)) mNil))) mNil)) mNil))) (mCons (mTup (mCons (mC (.int 1)) (mCons (mTup (mCons (mLst mNil) (mCons (mLst mNil) mNil))) mNil))) (mCons (mTup (mCons (mC (.int 2)) (mCons (mC .non) mNil))) (mCons (mTup (mCons (mC (.int 3)) (mCons (mC .non) mNil))) mNil))))))) b_law_5))))))))
def m_law : MS := (mSeqS (mFor (gaName 1) (mRange3 (mCons (mC (.int 0)) (mCons (mCall cMax (mCons (mC (.int 1)) (mCons (mCall cMin (mCons (mC (.int 12)) (mCons (mCall cLen (mCons (mVar 0) mNil)) mNil))) mNil))) (mCons (mC (.int 2)) mNil)))) b_law_1)
    (mRet (mC (.bl true))))
def F_law : FN:=callF m_law 13
theorem sc_law : FnScope ["script", "start", "tape", "question", "other", "full", "house", "cut", "handed", "found", "thing", "bad", "way"] ["script"] (defScope s_law):=⟨rfl,rfl,rfl,by decide +kernel,rfl,by decide +kernel,by decide +kernel⟩
theorem ok_law {f : Addr} {fd : FuncData} (F : Fun K "law" "law" s_law f fd) (T : Txt mg)  (D__law_atape : DefS P w K mg base 2 "_law_atape" 2 F__law_atape) (D__law_aquestion : DefS P w K mg base 3 "_law_aquestion" 2 F__law_aquestion) (D__law_acut : DefS P w K mg base 2 "_law_acut" 2 F__law_acut) (D_weight : DefS P w K mg base 9 "weight" 2 F_weight) (D__law_awhole : DefS P w K mg base 1 "_law_awhole" 1 F__law_awhole) (D__law_aweight : DefS P w K mg base 1 "_law_aweight" 2 F__law_aweight) (D__law_ano_cuts : DefS P w K mg base 1 "_law_ano_cuts" 2 F__law_ano_cuts) (D__law_acaught : DefS P w K mg base 10 "_law_acaught" 3 F__law_acaught) : FnOk P w K mg base (CXD P w) 11 f fd ["script"] (spF mg 1 F_law):=by
  refine fun_ok2 (k:=10) (m:=m_law) F sc_law rfl rfl rfl fun cdv A outer s H E hr=>?_
  exact (sb_cons (ss_for PassesOwn.leaving rfl (si_range3 rfl T.b_range (sa_cons se_int (sa_cons (se_callB (cs_max rfl) rfl T.b_max boot_max (sa_cons se_int (sa_cons (se_callB (cs_min rfl) rfl T.b_min boot_min (sa_cons se_int (sa_cons (se_callB cs_len rfl T.b_len PySem.boot_len (sa_cons (se_var 0) sa_nil)) sa_nil))) sa_nil))) (sa_cons se_int sa_nil)))) (sg_name (i:=1) sc_law.nd) (sb_cons (ss_set 2 sc_law.nd (se_call D__law_atape (hr.mono (by decide)) pass_onD rfl (sa_cons (se_var 0) (sa_cons (se_var 1) sa_nil))))
    (sb_cons (ss_set 3 sc_law.nd (se_call D__law_aquestion (hr.mono (by decide)) pass_onD rfl (sa_cons (se_var 2) (sa_cons se_int sa_nil))))
    (sb_cons (ss_set 4 sc_law.nd (se_call D__law_atape (hr.mono (by decide)) pass_onD rfl (sa_cons (se_var 0) (sa_cons (se_op os_add (se_var 1) se_int) sa_nil))))
    (sb_cons (ss_set 5 sc_law.nd (se_trk (sn_lst sa_nil)))
    (sb_cons (ss_for PassesOwn.leaving rfl (si_range1 rfl T.b_range (sa_cons (se_callB cs_len rfl T.b_len PySem.boot_len (sa_cons (se_ix (se_var 3) se_int) sa_nil)) sa_nil)) (sg_name (i:=6) sc_law.nd) (sb_one (ss_expr (se_extend (se_var 5) (sa_cons (se_val (sn_comp [none,some 6] ["moment", "house"] rfl (si_range1 rfl T.b_range (sa_cons (se_op os_add (se_callB cs_len rfl T.b_len PySem.boot_len (sa_cons (se_ix (se_var 3) se_int) sa_nil)) se_int) sa_nil)) (fun _ _ _ _ _=>(sg_name (i:=0) (show (["moment", "house"] : List Str).Nodup by decide +kernel))) (fun _ _ _ _ _=>(se_tup (sa_cons (se_var 1) (sa_cons (se_var 0) sa_nil)))) (fun _ _ _ _ _=>sts_nil) free_name)) sa_nil)))))
    (sb_cons (ss_for PassesOwn.leaving rfl (si_seq (se_lst (sa_cons (se_call D__law_acut (hr.mono (by decide)) pass_onD rfl (sa_cons (se_var 4) (sa_cons (se_var 3) sa_nil))) (sa_cons (se_call D__law_acut (hr.mono (by decide)) pass_onD rfl (sa_cons (se_var 4) (sa_cons (se_var 3) sa_nil))) (sa_cons (se_call D__law_acut (hr.mono (by decide)) pass_onD rfl (sa_cons (se_var 4) (sa_cons (se_var 3) sa_nil))) (sa_cons (se_var 5) (sa_cons (se_lst sa_nil) sa_nil))))))) (sg_name (i:=7) sc_law.nd) (sb_cons (ss_set 8 sc_law.nd (se_callT cs_list rfl T.b_list boot_list (sa_cons (se_var 7) sa_nil)))
    (sb_cons (ss_set 9 sc_law.nd (se_call D_weight (hr.mono (by decide)) pass_onD rfl (sa_cons (se_var 3) (sa_cons (se_var 8) sa_nil))))
    (sb_cons (ss_if (SimW.t (sw_or (st_not (st_val (se_call D__law_awhole (hr.mono (by decide)) pass_onD rfl (sa_cons (se_var 9) sa_nil)))) (sw_or (st_cmp (os_ne hr.units) (se_var 9) (se_call D__law_aweight (hr.mono (by decide)) pass_onD rfl (sa_cons (se_var 3) (sa_cons (se_var 7) sa_nil)))) (sw_or1 (st_cmp (os_ne hr.units) (se_var 8) (se_var 7)))))) (sb_one (ss_ret se_bl)) sb_nil)
    (sb_one (ss_for PassesOwn.leaving rfl (si_seq (se_call D__law_ano_cuts (hr.mono (by decide)) pass_onD rfl (sa_cons (se_var 3) (sa_cons (se_var 7) sa_nil)))) (sg_name (i:=10) sc_law.nd) (sb_one (ss_if (st_cmp (os_ne hr.units) (se_call D__law_acaught (hr.mono (by decide)) pass_onD rfl (sa_cons se_int (sa_cons (se_var 3) (sa_cons (se_var 10) sa_nil)))) se_str) (sb_one (ss_ret se_bl)) sb_nil))))))))
    (sb_cons (ss_set 11 sc_law.nd (se_tup (sa_cons (se_ix (se_var 3) se_int) (sa_cons (se_ix (se_var 3) se_int) (sa_cons (se_op os_add (se_ix (se_var 3) se_int) (se_tup (sa_cons (se_tup (sa_cons se_int (sa_cons se_int (sa_cons se_int sa_nil)))) sa_nil))) sa_nil)))))
    (sb_one (ss_for PassesOwn.leaving rfl (si_seq (se_lst (sa_cons (se_tup (sa_cons se_int (sa_cons (se_lst sa_nil) sa_nil))) (sa_cons (se_tup (sa_cons se_int (sa_cons (se_lst (sa_cons (se_tup (sa_cons se_int (sa_cons se_int sa_nil))) sa_nil)) sa_nil))) (sa_cons (se_tup (sa_cons se_int (sa_cons (se_tup (sa_cons (se_lst sa_nil) (sa_cons (se_lst sa_nil) sa_nil))) sa_nil))) (sa_cons (se_tup (sa_cons se_int (sa_cons se_non sa_nil))) (sa_cons (se_tup (sa_cons se_int (sa_cons se_non sa_nil))) sa_nil))))))) (sg_tup rfl (sgs_cons (sg_name (i:=12) sc_law.nd) (sgs_cons (sg_name (i:=10) sc_law.nd) sgs_nil))) (sb_one (ss_if (st_cmp (os_ne hr.units) (se_call D__law_acaught (hr.mono (by decide)) pass_onD rfl (sa_cons (se_var 12) (sa_cons (se_var 11) (sa_cons (se_var 10) sa_nil)))) se_str) (sb_one (ss_ret se_bl)) sb_nil))))))))))))
    (sb_one (ss_ret se_bl)))
end
end Lw
namespace Lw
open PySem PySem.Spec L2 Sm
theorem emod_lt (a : Int) {b : Int} (h : 0 < b) : 0 <= a % b /\ a % b < b:=⟨Int.emod_nonneg a (by omega),Int.emod_lt_of_pos a h⟩
theorem modN (x : Int) {n : Nat} (h : 1 <= n) : ∃ k : Nat,k < n /\ x % (n : Int) = (k : Int):=by
  have:=emod_lt x (b:=(n : Int)) (by omega)
  exact ⟨(x % (n : Int)).toNat,by omega,by omega⟩
def upto (n : Nat) (f : Nat -> Int) : Int:=((List.range n).map f).sum
theorem upto_succ (n : Nat) (f : Nat -> Int) : upto (n + 1) f = upto n f + f n:=by
  unfold upto
  rw [List.range_succ,List.map_append,List.sum_append]
  simp
theorem fin_eq {st st' : Store} (h : st'.length = st.length) (d : Int) : fin st (.int d) st' = .ok (.int d) st':=by
  unfold fin
  by_cases q : st <+: st'
  · rw [if_pos q]
    have : st = st':=q.eq_of_length h.symm
    rw [<- this,fz]; rfl
  · rw [if_neg q]
structure Mv (L : Nat) (S S' : Store) : Prop where
  len : S'.length = S.length
  keep : ∀ t,t ≠ L -> S'[t]? = S[t]?
theorem Mv.refl (L : Nat) (S : Store) : Mv L S S:=⟨rfl,fun _ _=>rfl⟩
theorem Mv.trans {L : Nat} {S S1 S2 : Store} (a : Mv L S S1) (b : Mv L S1 S2) : Mv L S S2:=⟨b.len.trans a.len,fun t ht=>(b.keep t ht).trans (a.keep t ht)⟩
def Tp (S : Store) (L : Nat) : Prop:=∃ c : Int,S[L]? = some (.lst [.int c])
theorem Tp.lt {S : Store} {L : Nat} (h : Tp S L) : L < S.length:=let ⟨_,e⟩:=h; (List.getElem?_eq_some_iff.mp e).1
theorem Tp.of {S S' : Store} {L : Nat} (h : Tp S L) (e : S'[L]? = S[L]?) : Tp S' L:=let ⟨c,q⟩:=h; ⟨c,by rw [e]; exact q⟩
theorem adigit_ok {S : Store} {L : Nat} (T : Tp S L) (m : Nat) (h1 : 1 <= m) (hm : m < 1000000) : ∃ (d : Nat) (S' : Store),d < m /\ Tp S' L /\ Mv L S S' /\ F__law_adigit [.ref L,.int m] S = .ok (.int d) S':=by
  obtain ⟨c,hS⟩:=T
  have hL:=(List.getElem?_eq_some_iff.mp hS).1
  have hV : ListAt S (.ref L) [.int c]:=.inr (.inr ⟨L,rfl,hS⟩)
  have i0 : oIx S (.ref L) (.int 0) = .ok (.int c) S:=by rw [hV.ix]; rfl
  obtain ⟨d,hd,ed⟩:=modN c h1
  have t0 : setIx S (.ref L) (.int 0) (.int (c / (m : Int))) = some (S.set L (.lst [.int (c / (m : Int))])):=by
    unfold setIx
    simp only [hS]
    rfl
  obtain ⟨S1,hS1⟩ : ∃ S1,S.set L (.lst [.int (c / (m : Int))]) = S1:=⟨_,rfl⟩
  rw [hS1] at t0
  have M : Mv L S S1:=⟨by rw [<- hS1,List.length_set],fun t ht=>by rw [<- hS1,List.getElem?_set_ne (fun u=>ht u.symm)]⟩
  refine ⟨d,S1,hd,⟨_,by rw [<- hS1,List.getElem?_set_self hL]⟩,M,?_⟩
  have hm0 : 0 < m:=h1
  have hm1 : (m : Int) < 1073741824:=by omega
  have step : m__law_adigit [some (.ref L),some (.int m),none] S = .rt (.int d) S1:=by
    simp -implicitDefEqProofs [m__law_adigit,i0,hm0,hm1,ed,t0,-oIx_r,-setIx_r]
  show callF m__law_adigit 3 _ S = _
  unfold callF
  rw [show (([PV.ref L,.int m] : List PV).map some ++ List.replicate (3 - [PV.ref L,.int m].length) none) = [some (.ref L),some (.int m),none] from rfl,step]
  exact fin_eq M.len d
theorem how_ok {S : Store} {L : Nat} (T : Tp S L) (few : Nat) (h1 : 1 <= few) (h2 : few <= 100) : ∃ (v : Int) (S' : Store),(1 <= v /\ v <= 1000000) /\ Tp S' L /\ Mv L S S' /\ F__law_ahow [.ref L,.int few] S = .ok (.int v) S':=by
  obtain ⟨d,S1,hd,T1,M1,e1⟩:=adigit_ok T 8 (by decide) (by decide)
  rw [show ((8 : Nat) : Int) = 8 from rfl] at e1
  by_cases q : d = 7
  · obtain ⟨x,S2,hx,T2,M2,e2⟩:=adigit_ok T1 9 (by decide) (by decide)
    rw [show ((9 : Nat) : Int) = 9 from rfl] at e2
    have q' : (d : Int) = 7:=by omega
    have M:=M1.trans M2
    refine ⟨1000000 - (x : Int),S2,by omega,T2,M,?_⟩
    have step : m__law_ahow [some (.ref L),some (.int few)] S = .rt (.int (1000000 - (x : Int))) S2:=by
      simp -implicitDefEqProofs [m__law_ahow,e1,q',e2]
    show callF m__law_ahow 2 _ S = _
    unfold callF
    rw [show (([PV.ref L,.int few] : List PV).map some ++ List.replicate (2 - [PV.ref L,.int few].length) none) = [some (.ref L),some (.int few)] from rfl,step]
    exact fin_eq M.len _
  · obtain ⟨x,S2,hx,T2,M2,e2⟩:=adigit_ok T1 few h1 (by omega)
    have q' : ¬ (d : Int) = 7:=by omega
    have M:=M1.trans M2
    refine ⟨1 + (x : Int),S2,by omega,T2,M,?_⟩
    have step : m__law_ahow [some (.ref L),some (.int few)] S = .rt (.int (1 + (x : Int))) S2:=by
      simp -implicitDefEqProofs [m__law_ahow,e1,q,q',e2]
    show callF m__law_ahow 2 _ S = _
    unfold callF
    rw [show (([PV.ref L,.int few] : List PV).map some ++ List.replicate (2 - [PV.ref L,.int few].length) none) = [some (.ref L),some (.int few)] from rfl,step]
    exact fin_eq M.len _
theorem atape_ok (ns : List Int) (k : Nat) (S : Store) : ∃ S',Tp S' S.length /\ F__law_atape [.fro (ns.map .int),.int k] S = .ok (.ref S.length) S':=by
  obtain ⟨c,hc⟩ : ∃ c : Int,F__law_acell [.fro (ns.map .int),.int k] S = .ok (.int c) S:=by
    by_cases q : k < ns.length
    · have e : atI (ns.map PV.int) (k : Int) = some (.int (ns.getD k 0)):=by rw [atI_map,Sm.atI_get (getD_some q 0)]; rfl
      have hl : (ns.map PV.int).length = ns.length:=List.length_map _
      refine ⟨ns.getD k 0,?_⟩
      generalize ns.getD k 0 = x at *
      generalize ns.length = nl at *
      generalize ns.map PV.int = nv at *
      simp -implicitDefEqProofs [F__law_acell,callF,m__law_acell,hl,q,e]
    · have hl : (ns.map PV.int).length = ns.length:=List.length_map _
      have q' : ¬ (k : Int) < (ns.length : Int):=by omega
      refine ⟨0,?_⟩
      generalize ns.length = nl at *
      generalize ns.map PV.int = nv at *
      simp -implicitDefEqProofs [F__law_acell,callF,m__law_acell,hl,q,q']
  by_cases q : c % 2 = 0
  · refine ⟨S ++ [.lst [.int (c / 2)]],⟨c / 2,by simp⟩,?_⟩
    generalize ns.map PV.int = nv at *
    simp -implicitDefEqProofs [F__law_atape,callK,m__law_atape,hc,q,lim_eq]
  · obtain ⟨l0,hl0⟩ : ∃ l0 : Int,(c % 2305843009213693951 * 48271 + 69621 * k + 11) % 2305843009213693951 = l0:=⟨_,rfl⟩
    have b0:=emod_lt (c % 2305843009213693951 * 48271 + 69621 * k + 11) (b:=2305843009213693951) (by decide)
    rw [hl0] at b0
    obtain ⟨Γ',S1,e,x,y,z,rfl,rfl,_⟩:=forG_inv (g:=fun k : Nat=>PV.int (k : Int)) (xs:=List.range 5) (ga:=gaName 6) (body:=b__law_atape_1) (w:=[]) (Γ:=[some (.fro (ns.map .int)),some (.int k),some (.int c),some (.int 2305843009213693951),some (.int 0),some (.int l0),none]) (st:=S)
      (fun _ Γ st'=>∃ (x y : Int) (z : Option PV),Γ = [some (.fro (ns.map .int)),some (.int k),some (.int c),some (.int 2305843009213693951),some (.int x),some (.int y),z] /\ st' = S /\ 0 <= y /\ y < 2305843009213693951)
      (fun _ _ _ _=>by simp)
      (fun i t Γ st' hx ⟨x,y,z,e1,e2,y1,y2⟩=>by
        subst e1; subst e2
        obtain ⟨w,hw⟩ : ∃ w : Int,(y * y + 40692 * k + t) % 2305843009213693951 = w:=⟨_,rfl⟩
        have bw:=emod_lt (y * y + 40692 * k + t) (b:=2305843009213693951) (by decide)
        rw [hw] at bw
        have yb : -18446744073709551616 < y /\ y < 18446744073709551616:=by omega
        refine ⟨_,rfl,[some (.fro (ns.map .int)),some (.int k),some (.int c),some (.int 2305843009213693951),some (.int (x * 2305843009213693951 + y)),some (.int w),some (.int t)],st',?_,_,_,_,rfl,rfl,bw.1,bw.2⟩
        generalize ns.map PV.int = nv at *
        simp -implicitDefEqProofs [b__law_atape_1,yb,hw])
      ⟨_,_,_,rfl,rfl,b0.1,b0.2⟩
    rw [<- rangeI0] at e
    refine ⟨S1 ++ [.lst [.int x]],⟨x,by simp⟩,?_⟩
    generalize ns.map PV.int = nv at *
    simp -implicitDefEqProofs [F__law_atape,callK,m__law_atape,hc,q,lim_eq,hl0,e]
theorem is_whole_int (i : Int) (st : Store) : F_is_whole [.int i] st = .ok (.bl true) st:=by
  simp [F_is_whole,callF,m_is_whole,isI,tyN]
theorem btw_int (x a b : Int) (st : Store) : F_is_between [.int x,.int a,.int b] st = .ok (.bl (decide (a <= x) && decide (x <= b))) st:=by
  have:=is_whole_int x st
  by_cases q : a <= x <;> simp [F_is_between,callF,m_is_between,this,q]
theorem road2 {n : Int} {a b : PV} {u v : Bool} {st : Store} (ha : F_is_between [a,.int 0,.int (n - 1)] st = .ok (.bl u) st) (hb : F_is_between [b,.int 0,.int (n - 1)] st = .ok (.bl v) st) : ((u && v) = false -> F_is_road [.int n,.tup [a,b]] st = .ok (.bl false) st) /\ ((u && v) = true -> ∀ w,oNe st a b = .ok (.bl w) st -> F_is_road [.int n,.tup [a,b]] st = .ok (.bl w) st):=by
  have hc : compG (gaName 0) mTrue e_is_road_1 [] (capG [none,some 0] [some (.int n),some (.tup [a,b])]) [a,b] st = .ok [.bl u,.bl v] st:=by
    have:=compG_on (ga:=gaName 0) (me:=e_is_road_1) (w:=[]) (Γ0:=capG [none,some 0] [some (.int n),some (.tup [a,b])]) (st:=st) (fun z : PV × Bool=>z.1) (fun z=>PV.bl z.2) (by simp) (ys:=[(a,u),(b,v)]) (fun z hz=>⟨_,rfl,by
      rcases List.mem_cons.mp hz with rfl | hz
      · simp [capG,e_is_road_1,ha]
      · rw [List.mem_singleton.mp hz]
        simp [capG,e_is_road_1,hb]⟩)
    exact this
  have hal : cBls (fun ns=>.bl (ns.all id)) st [.lst [.bl u,.bl v]] = .ok (.bl (u && v)) st:=by cases u <;> cases v <;> rfl
  refine ⟨fun q=>?_,fun q w hw=>?_⟩
  · rw [q] at hal
    simp -implicitDefEqProofs [F_is_road,callF,m_is_road,isI,tyN,hc,hal,lim_eq]
  · rw [q] at hal
    simp -implicitDefEqProofs [F_is_road,callF,m_is_road,isI,tyN,hc,hal,lim_eq,atI,ixN,hw]
def rdV (r : Nat × Nat) : PV:=.tup [.int r.1,.int r.2]
def RdOk (n : Nat) (r : Nat × Nat) : Prop:=r.1 < n /\ r.2 < n /\ r.1 ≠ r.2
theorem road_ok {n : Nat} {r : Nat × Nat} (h : RdOk n r) (st : Store) : F_is_road [.int n,rdV r] st = .ok (.bl true) st:=by
  obtain ⟨h1,h2,h3⟩:=h
  have h3' : ¬ ((r.1 : Int) = r.2):=by omega
  refine (road2 (btw_int _ _ _ st) (btw_int _ _ _ st)).2 ?_ true ?_
  · simp; omega
  · simp [h3']
def lx (a b : Nat × Nat) : Bool:=HT.lexLt [(a.1 : Int),a.2] [(b.1 : Int),b.2]
def LxP (a b : Nat × Nat) : Prop:=a.1 < b.1 \/ (a.1 = b.1 /\ a.2 < b.2)
theorem lt_rd (a b : Nat × Nat) (st : Store) : oLt st (rdV a) (rdV b) = .ok (.bl (lx a b)) st:=rfl
def riseP (rs : List (Nat × Nat)) : Bool:=(rs.zip (rs.drop 1)).all fun z=>lx z.1 z.2
theorem lx_iff (a b : Nat × Nat) : lx a b = true <-> LxP a b:=by
  unfold lx LxP
  rw [HT.lexLt_cons,HT.lexLt_cons,HT.lexLt_nil_nil]
  by_cases h1 : (a.1 : Int) = b.1
  · rw [if_pos h1]
    by_cases h2 : (a.2 : Int) = b.2
    · rw [if_pos h2]
      constructor
      · intro z; cases z
      · intro z; omega
    · rw [if_neg h2,decide_eq_true_iff]; omega
  · rw [if_neg h1,decide_eq_true_iff]; omega
theorem rise_cons (x y : Nat × Nat) (t : List (Nat × Nat)) : riseP (x :: y :: t) = (lx x y && riseP (y :: t)):=rfl
theorem rise_of : ∀ {rs : List (Nat × Nat)},rs.Pairwise LxP -> riseP rs = true
  | [],_=>rfl
  | [_],_=>rfl
  | x :: y :: t,h=>by
    rw [rise_cons,rise_of (List.pairwise_cons.mp h).2,(lx_iff x y).mpr ((List.pairwise_cons.mp h).1 y (by simp))]; rfl
theorem sized_tup (xs : List PV) (a b : Int) (st : Store) : F_is_sized_tuple [.tup xs,.int a,.int b] st = .ok (.bl (decide (a <= (xs.length : Int)) && decide ((xs.length : Int) <= b))) st:=by
  by_cases q : a <= (xs.length : Int) <;> simp -implicitDefEqProofs [F_is_sized_tuple,callF,m_is_sized_tuple,isI,tyN,q]
theorem start_of {zs : List (PV × Bool)} {st : Store} (h1 : 1 <= zs.length) (h6 : zs.length <= 6) (h : ∀ z ∈ zs,F_is_between [z.1,.int 0,.int 1000000] st = .ok (.bl z.2) st) : F_is_start [.tup (zs.map Prod.fst)] st = .ok (.bl ((zs.map Prod.snd).all id)) st:=by
  have hs:=sized_tup (zs.map Prod.fst) 1 6 st
  rw [List.length_map] at hs
  have hb : (decide ((1 : Int) <= zs.length) && decide ((zs.length : Int) <= 6)) = true:=by simp; omega
  rw [hb] at hs
  have hc : compG (gaName 0) mTrue e_is_start_1 [] (capG [none] [some (.tup (zs.map Prod.fst))]) (zs.map Prod.fst) st = .ok ((zs.map Prod.snd).map .bl) st:=by
    rw [List.map_map]
    refine compG_on _ _ (by simp) fun z hz=>⟨_,rfl,?_⟩
    have:=h z hz
    show _ = Res.ok (PV.bl z.2) st
    generalize zs.map Prod.fst = zv at *
    simp [capG,e_is_start_1,this]
  have hl' : (zs.map Prod.fst).length <= 1000000:=by rw [List.length_map]; omega
  generalize zs.map Prod.fst = zv at *
  generalize zs.map Prod.snd = bs at *
  simp -implicitDefEqProofs [F_is_start,callF,m_is_start,hs,hl',lim_eq,hc]
theorem rwm3 {n : Nat} {a b c : PV} {u w : Bool} {st : Store} (h1 : F_is_road [.int n,.tup [a,b]] st = .ok (.bl u) st) (h2 : F_is_between [c,.int 1,.int 1000000] st = .ok (.bl w) st) : F_is_road_with_most [.int n,.tup [a,b,c]] st = .ok (.bl (u && w)) st:=by
  have hs:=sized_tup [a,b,c] 3 3 st
  have hs : F_is_sized_tuple [.tup [a,b,c],.int 3,.int 3] st = .ok (.bl true) st:=hs
  have hcut : cut [a,b,c] none (some 2) = [a,b]:=cut_front [a,b,c] 2
  cases u
  · simp -implicitDefEqProofs [F_is_road_with_most,callF,m_is_road_with_most,hs,hcut,h1]
  · simp -implicitDefEqProofs [F_is_road_with_most,callF,m_is_road_with_most,hs,hcut,h1,atI,ixN,h2]
abbrev Tr:=(Nat × Nat) × Int
def trV (t : Tr) : PV:=.tup [.int t.1.1,.int t.1.2,.int t.2]
def TrOk (n : Nat) (t : Tr) : Prop:=RdOk n t.1 /\ 1 <= t.2 /\ t.2 <= 1000000
theorem rwm_ok {n : Nat} {t : Tr} (h : TrOk n t) (st : Store) : F_is_road_with_most [.int n,trV t] st = .ok (.bl true) st:=by
  have h1:=road_ok h.1 st
  have h2:=btw_int t.2 1 1000000 st
  have hb : (decide ((1 : Int) <= t.2) && decide (t.2 <= 1000000)) = true:=by have:=h.2; simp; omega
  rw [hb] at h2
  exact rwm3 h1 h2
theorem riseL_ok (rs : List (Nat × Nat)) (hl : rs.length <= 1000) (st : Store) : F_is_rising [.lst (rs.map rdV)] st = .ok (.bl (riseP rs)) st:=by
  have hsl : cut (rs.map rdV) (some 1) none = (rs.drop 1).map rdV:=by
    rw [cut_map]
    exact congrArg _ (cut_back rs 1)
  have hc : compG (gaTup (gaCons (gaName 0) (gaCons (gaName 1) gaNil))) mTrue e_is_rising_1 [] (capG [none,none] [some (.lst (rs.map rdV))]) ((rs.zip (rs.drop 1)).map fun z=>.tup [rdV z.1,rdV z.2]) st = .ok (((rs.zip (rs.drop 1)).map fun z=>lx z.1 z.2).map .bl) st:=by
    rw [List.map_map]
    refine compG_on _ _ (by simp) fun z hz=>⟨_,rfl,?_⟩
    have:=lt_rd z.1 z.2 st
    show _ = Res.ok (PV.bl (lx z.1 z.2)) st
    generalize rdV z.1 = v1 at *
    generalize rdV z.2 = v2 at *
    simp [capG,e_is_rising_1,this]
  have ha : riseP rs = ((rs.zip (rs.drop 1)).map fun z=>lx z.1 z.2).all id:=by unfold riseP; rw [List.all_map]; rfl
  have hl' : (rs.map rdV).length <= 1000000:=by rw [List.length_map]; omega
  rw [ha]
  rw [<- zipT_map] at hc
  generalize ((rs.zip (rs.drop 1)).map fun z=>lx z.1 z.2) = bs at *
  generalize (rs.drop 1).map rdV = ds at *
  generalize rs.map rdV = rv at *
  simp -implicitDefEqProofs [F_is_rising,callF,m_is_rising,hsl,hl',lim_eq,hc]
theorem one_tr {n : Nat} {ts : List Tr} (h : ∀ t ∈ ts,TrOk n t) (hl : ts.length <= 900) (st : Store) : F_are_roads_of_one_round [.int n,.tup (ts.map trV)] st = .ok (.bl (riseP (ts.map Prod.fst))) st:=by
  have hc : compG (gaName 0) mTrue e_are_roads_of_one_round_1 [] (capG [none,some 0] [some (.int n),some (.tup (ts.map trV))]) (ts.map trV) st = .ok ((ts.map fun _=>true).map .bl) st:=by
    rw [List.map_map]
    refine compG_on _ _ (by simp) fun t ht=>⟨_,rfl,?_⟩
    have:=rwm_ok (h t ht) st
    show _ = Res.ok (PV.bl true) st
    generalize ts.map trV = zv at *
    generalize trV t = x at *
    simp [capG,e_are_roads_of_one_round_1,this]
  have hc2 : compG (gaName 0) mTrue e_are_roads_of_one_round_2 [] (capG [none] [some (.int n),some (.tup (ts.map trV))]) (ts.map trV) st = .ok ((ts.map Prod.fst).map rdV) st:=by
    rw [List.map_map]
    refine compG_on _ _ (by simp) fun t ht=>⟨_,rfl,?_⟩
    have hcut : cut [PV.int t.1.1,.int t.1.2,.int t.2] none (some 2) = [.int t.1.1,.int t.1.2]:=cut_front [PV.int t.1.1,.int t.1.2,.int t.2] 2
    show _ = Res.ok (PV.tup [.int t.1.1,.int t.1.2]) st
    generalize ts.map trV = zv at *
    unfold trV
    simp [capG,e_are_roads_of_one_round_2,hcut]
  have ha : (ts.map fun _=>true).all id = true:=by rw [List.all_map,List.all_eq_true]; intro r _; rfl
  have hr:=riseL_ok (ts.map Prod.fst) (by rw [List.length_map]; omega) st
  have hl' : (ts.map trV).length <= 1000000:=by rw [List.length_map]; omega
  generalize riseP (ts.map Prod.fst) = b at *
  generalize (ts.map Prod.fst).map rdV = pv at *
  generalize (ts.map fun _=>true) = bs at *
  generalize ts.map trV = zv at *
  simp -implicitDefEqProofs [F_are_roads_of_one_round,callF,m_are_roads_of_one_round,isI,tyN,hl',lim_eq,hc,ha,hc2,hr]
theorem plan_of {n : Nat} {zs : List (PV × Bool)} {st : Store} (hl : zs.length <= 10) (h : ∀ z ∈ zs,F_are_roads_of_one_round [.int n,z.1] st = .ok (.bl z.2) st) : F_are_roads_of_plan [.int n,.tup (zs.map Prod.fst)] st = .ok (.bl ((zs.map Prod.snd).all id)) st:=by
  have hs:=sized_tup (zs.map Prod.fst) 0 10 st
  rw [List.length_map] at hs
  have hb : (decide ((0 : Int) <= zs.length) && decide ((zs.length : Int) <= 10)) = true:=by simp; omega
  rw [hb] at hs
  have hc : compG (gaName 0) mTrue e_are_roads_of_plan_1 [] (capG [none,some 0] [some (.int n),some (.tup (zs.map Prod.fst))]) (zs.map Prod.fst) st = .ok ((zs.map Prod.snd).map .bl) st:=by
    rw [List.map_map]
    refine compG_on _ _ (by simp) fun z hz=>⟨_,rfl,?_⟩
    have:=h z hz
    show _ = Res.ok (PV.bl z.2) st
    generalize zs.map Prod.fst = zv at *
    simp [capG,e_are_roads_of_plan_1,this]
  have hl' : (zs.map Prod.fst).length <= 1000000:=by rw [List.length_map]; omega
  generalize zs.map Prod.fst = zv at *
  generalize zs.map Prod.snd = bs at *
  simp -implicitDefEqProofs [F_are_roads_of_plan,callF,m_are_roads_of_plan,hs,hl',lim_eq,hc]
theorem taking3 {n r : Nat} {a b c : PV} {u v w : Bool} {st : Store} (h1 : F_is_between [b,.int 0,.int ((n : Int) - 1)] st = .ok (.bl u) st) (h2 : F_is_between [a,.int 0,.int r] st = .ok (.bl v) st) (h3 : F_is_between [c,.int 1,.int 1000000] st = .ok (.bl w) st) : F_is_taking [.int n,.int r,.tup [a,b,c]] st = .ok (.bl (u && v && w)) st:=by
  have hs : F_is_sized_tuple [.tup [a,b,c],.int 3,.int 3] st = .ok (.bl true) st:=sized_tup [a,b,c] 3 3 st
  have hp : F_is_place [.int n,.int r,b,a] st = .ok (.bl (u && v)) st:=by
    cases u <;> simp -implicitDefEqProofs [F_is_place,callF,m_is_place,h1,h2]
  generalize (u && v) = uv at *
  cases uv <;> simp -implicitDefEqProofs [F_is_taking,callF,m_is_taking,hs,atI,ixN,hp,h3]
theorem takings_of {n r : Nat} {zs : List (PV × Bool)} {st : Store} (hl : zs.length <= 20) (h : ∀ z ∈ zs,F_is_taking [.int n,.int r,z.1] st = .ok (.bl z.2) st) : F_are_takings [.int n,.int r,.tup (zs.map Prod.fst)] st = .ok (.bl ((zs.map Prod.snd).all id)) st:=by
  have hs:=sized_tup (zs.map Prod.fst) 0 20 st
  rw [List.length_map] at hs
  have hb : (decide ((0 : Int) <= zs.length) && decide ((zs.length : Int) <= 20)) = true:=by simp; omega
  rw [hb] at hs
  have hc : compG (gaName 0) mTrue e_are_takings_1 [] (capG [none,some 0,some 1] [some (.int n),some (.int r),some (.tup (zs.map Prod.fst))]) (zs.map Prod.fst) st = .ok ((zs.map Prod.snd).map .bl) st:=by
    rw [List.map_map]
    refine compG_on _ _ (by simp) fun z hz=>⟨_,rfl,?_⟩
    have:=h z hz
    show _ = Res.ok (PV.bl z.2) st
    generalize zs.map Prod.fst = zv at *
    simp [capG,e_are_takings_1,this]
  have hl' : (zs.map Prod.fst).length <= 1000000:=by rw [List.length_map]; omega
  generalize zs.map Prod.fst = zv at *
  generalize zs.map Prod.snd = bs at *
  simp -implicitDefEqProofs [F_are_takings,callF,m_are_takings,hs,hl',lim_eq,hc]
theorem q_take {xs ys : List PV} {C : PV} {b : Bool} {st : Store} (h : F_is_start [.tup xs] st = .ok (.bl true) st) (h2 : F_are_roads_of_plan [.int xs.length,.tup ys] st = .ok (.bl true) st) (h3 : F_are_takings [.int xs.length,.int ys.length,C] st = .ok (.bl b) st) : F_is_question [.tup [.tup xs,.tup ys,C]] st = .ok (.bl b) st:=by
  have hs : F_is_sized_tuple [.tup [.tup xs,.tup ys,C],.int 3,.int 3] st = .ok (.bl true) st:=sized_tup [.tup xs,.tup ys,C] 3 3 st
  simp -implicitDefEqProofs [F_is_question,callF,m_is_question,hs,atI,ixN,h,h2,h3]
structure Mv2 (L M : Nat) (S S' : Store) : Prop where
  len : S'.length = S.length
  keep : ∀ t,t ≠ L -> t ≠ M -> S'[t]? = S[t]?
abbrev qΓ (L n : Nat) (st : PV) (r : Nat) (often : Int) (R : Nat) (a7 a8 a9 a10 a11 a12 : Option PV) : Gam:=[some (.ref L),some (.int 4),some (.int n),some st,some (.int r),some (.int often),some (.ref R),a7,a8,a9,a10,a11,a12]
theorem cell44 {S : Store} {L M : Nat} (T : Tp S L) (hLM : L ≠ M) {n i j : Nat} (hi : i < n) (hj : j < n) {ts : List Tr} (hl : ts.length <= 500) (hM : S[M]? = some (.lst (ts.map trV))) (V : PV) (r : Nat) (often : Int) (R : Nat) (a7 a11 a12 : Option PV) :
    ∃ (ts' : List Tr) (S' : Store),(ts' = ts \/ ∃ v,ts' = ts ++ [((i,j),v)] /\ i ≠ j /\ 1 <= v /\ v <= 1000000) /\ Tp S' L /\ S'[M]? = some (.lst (ts'.map trV)) /\ Mv2 L M S S' /\ b__law_aquestion_3 (qΓ L n V r often R a7 (some (.ref M)) (some (.int i)) (some (.int j)) a11 a12) S = .nx (qΓ L n V r often R a7 (some (.ref M)) (some (.int i)) (some (.int j)) a11 a12) S':=by
  by_cases q : i = j
  · refine ⟨ts,S,.inl rfl,T,hM,⟨rfl,fun _ _ _=>rfl⟩,?_⟩
    unfold qΓ
    simp -implicitDefEqProofs [b__law_aquestion_3,q]
  · have q' : ¬ ((i : Int) = j):=by omega
    obtain ⟨d,S1,hd,T1,M1,e1⟩:=adigit_ok T 4 (by decide) (by decide)
    rw [show ((4 : Nat) : Int) = 4 from rfl] at e1
    have hM1 : S1[M]? = some (.lst (ts.map trV)):=by rw [M1.keep M (fun z=>hLM z.symm)]; exact hM
    by_cases q2 : (d : Int) < often
    · obtain ⟨v,S2,hv,T2,M2,e2⟩:=how_ok T1 5 (by decide) (by decide)
      rw [show ((5 : Nat) : Int) = 5 from rfl] at e2
      have hM2 : S2[M]? = some (.lst (ts.map trV)):=by rw [M2.keep M (fun z=>hLM z.symm)]; exact hM1
      have hML : M < S2.length:=(List.getElem?_eq_some_iff.mp hM2).1
      refine ⟨ts ++ [((i,j),v)],S2.set M (.lst ((ts ++ [((i,j),v)]).map trV)),.inr ⟨v,rfl,q,hv⟩,T2.of (by rw [List.getElem?_set_ne (fun z=>hLM z.symm)]),by rw [List.getElem?_set_self hML],⟨by rw [List.length_set,M2.len,M1.len],fun t h1 h2=>by rw [List.getElem?_set_ne (fun z=>h2 z.symm),M2.keep t h1,M1.keep t h1]⟩,?_⟩
      have hmm : (ts ++ [((i,j),v)]).map trV = ts.map trV ++ [.tup [.int i,.int j,.int v]]:=by rw [List.map_append]; rfl
      have hlo : listOf S1 (.ref M) = some (ts.map trV):=by simp [hM1]
      have hll : (ts.map trV).length < 1000000:=by rw [List.length_map]; omega
      rw [hmm]
      unfold qΓ
      generalize ts.map trV = tv at *
      simp -implicitDefEqProofs [b__law_aquestion_3,q,q',e1,q2,hlo,e2,lim_eq,mtAppend,chg,hM2,hll,-listOf_r]
    · refine ⟨ts,S1,.inl rfl,T1,hM1,⟨M1.len,fun t h1 _=>M1.keep t h1⟩,?_⟩
      unfold qΓ
      simp -implicitDefEqProofs [b__law_aquestion_3,q,q',e1,q2]
theorem row44 {S : Store} {L M : Nat} (T : Tp S L) (hLM : L ≠ M) {n i : Nat} (hn : n <= 8) (hi : i < n) {ts : List Tr} (hts : ∀ t ∈ ts,TrOk n t /\ t.1.1 < i) (hp : (ts.map Prod.fst).Pairwise LxP) (hl : ts.length <= 100) (hM : S[M]? = some (.lst (ts.map trV))) (V : PV) (r : Nat) (often : Int) (R : Nat) (a7 a10 a11 a12 : Option PV) :
    ∃ (b10 : Option PV) (ts' : List Tr) (S' : Store),(∀ t ∈ ts',TrOk n t /\ t.1.1 < i + 1) /\ (ts'.map Prod.fst).Pairwise LxP /\ ts'.length <= ts.length + n /\ Tp S' L /\ S'[M]? = some (.lst (ts'.map trV)) /\ Mv2 L M S S' /\ b__law_aquestion_2 (qΓ L n V r often R a7 (some (.ref M)) (some (.int i)) a10 a11 a12) S = .nx (qΓ L n V r often R a7 (some (.ref M)) (some (.int i)) b10 a11 a12) S':=by
  have hn1 : -1000000 <= (n : Int) /\ (n : Int) <= 1000000:=by omega
  obtain ⟨Γ',S',e,b10,ts',rfl,h1,h2,h3,T',hM',m⟩:=forG_inv (g:=fun k : Nat=>PV.int (k : Int)) (xs:=List.range n) (ga:=gaName 10) (body:=b__law_aquestion_3) (w:=[]) (Γ:=qΓ L n V r often R a7 (some (.ref M)) (some (.int i)) a10 a11 a12) (st:=S)
    (fun j Γ st'=>∃ (b10 : Option PV) (ts' : List Tr),Γ = qΓ L n V r often R a7 (some (.ref M)) (some (.int i)) b10 a11 a12 /\ (∀ t ∈ ts',TrOk n t /\ (t.1.1 < i \/ (t.1.1 = i /\ t.1.2 < j))) /\ (ts'.map Prod.fst).Pairwise LxP /\ ts'.length <= ts.length + j /\ Tp st' L /\ st'[M]? = some (.lst (ts'.map trV)) /\ Mv2 L M S st')
    (fun _ _ _ _=>by simp)
    (fun j k Γ st' hx ⟨b10,ts',e1,h1,h2,h3,T',hM',m⟩=>by
      subst e1
      have hjn : j < n:=by simpa using (List.getElem?_eq_some_iff.mp hx).1
      have hkj : k = j:=by
        rw [List.getElem?_range hjn] at hx
        exact (Option.some.inj hx).symm
      subst hkj
      obtain ⟨ts2,S2,hc,T2,hM2,m2,e2⟩:=cell44 T' hLM hi hjn (by omega) hM' V r often R a7 a11 a12
      refine ⟨_,rfl,_,S2,e2,_,ts2,rfl,?_,?_,?_,T2,hM2,⟨m2.len.trans m.len,fun t u1 u2=>(m2.keep t u1 u2).trans (m.keep t u1 u2)⟩⟩
      · rcases hc with rfl | ⟨v,rfl,hne,hv⟩
        · intro t ht
          have:=h1 t ht
          exact ⟨this.1,by omega⟩
        · intro t ht
          rcases List.mem_append.mp ht with ht | ht
          · have:=h1 t ht
            exact ⟨this.1,by omega⟩
          · rw [List.mem_singleton.mp ht]
            exact ⟨⟨⟨hi,hjn,hne⟩,hv⟩,.inr ⟨rfl,by simp⟩⟩
      · rcases hc with rfl | ⟨v,rfl,hne,hv⟩
        · exact h2
        · rw [List.map_append,List.pairwise_append]
          refine ⟨h2,by simp,fun a ha b hb=>?_⟩
          obtain ⟨t,ht,rfl⟩:=List.mem_map.mp ha
          have hb : b = (i,k):=by simpa using hb
          rw [hb]
          exact (h1 t ht).2
      · rcases hc with rfl | ⟨v,rfl,_⟩
        · omega
        · rw [List.length_append]; simp; omega)
    ⟨_,ts,rfl,fun t ht=>⟨(hts t ht).1,.inl (hts t ht).2⟩,hp,by omega,T,hM,⟨rfl,fun _ _ _=>rfl⟩⟩
  rw [<- rangeI0] at e
  rw [List.length_range] at h1 h3
  refine ⟨b10,ts',S',fun t ht=>⟨(h1 t ht).1,by have:=(h1 t ht).2; omega⟩,h2,h3,T',hM',m,?_⟩
  unfold qΓ at e ⊢
  simp -implicitDefEqProofs [b__law_aquestion_2,lim_eq,hn1,e]
structure TsOk (n : Nat) (ts : List Tr) : Prop where
  ok : ∀ t ∈ ts,TrOk n t
  inc : (ts.map Prod.fst).Pairwise LxP
  len : ts.length <= 100
def tsV (ts : List Tr) : PV:=.tup (ts.map trV)
theorem round44 {S : Store} {L R : Nat} (T : Tp S L) (hLR : L < R) {n : Nat} (hn : n <= 8) {rs : List (List Tr)} (hrl : rs.length <= 50) (hR : S[R]? = some (.lst (rs.map tsV))) (V : PV) (r : Nat) (often : Int) (a7 a8 a9 a10 a11 a12 : Option PV) :
    ∃ b8 b9 b10 ts S',TsOk n ts /\ Tp S' L /\ S'[R]? = some (.lst ((rs ++ [ts]).map tsV)) /\ b__law_aquestion_1 (qΓ L n V r often R a7 a8 a9 a10 a11 a12) S = .nx (qΓ L n V r often R a7 b8 b9 b10 a11 a12) S':=by
  have hn1 : -1000000 <= (n : Int) /\ (n : Int) <= 1000000:=by omega
  have hRl : R < S.length:=(List.getElem?_eq_some_iff.mp hR).1
  have T1 : Tp (S ++ [.lst []]) L:=T.of (by rw [List.getElem?_append_left (by omega)])
  obtain ⟨Γ',S2,e,b9,b10,ts,rfl,h1,h2,h3,T2,hM,m⟩:=forG_inv (g:=fun k : Nat=>PV.int (k : Int)) (xs:=List.range n) (ga:=gaName 9) (body:=b__law_aquestion_2) (w:=[]) (Γ:=qΓ L n V r often R a7 (some (.ref S.length)) a9 a10 a11 a12) (st:=S ++ [.lst []])
    (fun i Γ st'=>∃ (b9 b10 : Option PV) (ts : List Tr),Γ = qΓ L n V r often R a7 (some (.ref S.length)) b9 b10 a11 a12 /\ (∀ t ∈ ts,TrOk n t /\ t.1.1 < i) /\ (ts.map Prod.fst).Pairwise LxP /\ ts.length <= i * n /\ Tp st' L /\ st'[S.length]? = some (.lst (ts.map trV)) /\ Mv2 L S.length (S ++ [.lst []]) st')
    (fun _ _ _ _=>by simp)
    (fun i k Γ st' hx ⟨b9,b10,ts,g1,h1,h2,h3,T',hM,m⟩=>by
      subst g1
      have hin : i < n:=by simpa using (List.getElem?_eq_some_iff.mp hx).1
      have hki : k = i:=by
        rw [List.getElem?_range hin] at hx
        exact (Option.some.inj hx).symm
      subst hki
      have hnn : k * n <= 64:=Nat.le_trans (Nat.mul_le_mul (show k <= 8 by omega) hn) (by decide)
      obtain ⟨c10,ts2,S3,g2,g3,g4,T3,hM3,m3,e3⟩:=row44 T' (by omega) hn hin h1 h2 (by omega) hM V r often R a7 b10 a11 a12
      exact ⟨_,rfl,_,S3,e3,_,_,ts2,rfl,g2,g3,by rw [Nat.succ_mul]; omega,T3,hM3,⟨m3.len.trans m.len,fun t u1 u2=>(m3.keep t u1 u2).trans (m.keep t u1 u2)⟩⟩)
    ⟨_,_,[],rfl,fun t ht=>(by cases ht),List.Pairwise.nil,by simp,T1,by simp,⟨rfl,fun _ _ _=>rfl⟩⟩
  rw [<- rangeI0] at e
  rw [List.length_range] at h3
  have hnn : n * n <= 64:=Nat.le_trans (Nat.mul_le_mul hn hn) (by decide)
  have hR2 : S2[R]? = some (.lst (rs.map tsV)):=by rw [m.keep R (by omega) (by omega),List.getElem?_append_left hRl]; exact hR
  have hR2l : R < S2.length:=(List.getElem?_eq_some_iff.mp hR2).1
  refine ⟨some (.ref S.length),b9,b10,ts,S2.set R (.lst ((rs ++ [ts]).map tsV)),⟨fun t ht=>(h1 t ht).1,h2,by omega⟩,T2.of (by rw [List.getElem?_set_ne (by omega)]),by rw [List.getElem?_set_self hR2l],?_⟩
  have hmm : (rs ++ [ts]).map tsV = rs.map tsV ++ [tsV ts]:=by rw [List.map_append]; rfl
  have hT : PV.tup (ts.map trV) = tsV ts:=rfl
  have hll : (rs.map tsV).length < 1000000:=by rw [List.length_map]; omega
  rw [hmm]
  unfold qΓ at e ⊢
  generalize rs.map tsV = rv at *
  generalize ts.map trV = ov at *
  generalize tsV ts = o at *
  simp -implicitDefEqProofs [b__law_aquestion_1,lim_eq,hn1,e,hR2,hM,hT,mtAppend,chg,hll]
def TkOk (n r : Nat) (t : Tr) : Prop:=t.1.1 <= r /\ t.1.2 < n /\ 1 <= t.2 /\ t.2 <= 1000000
structure Qok (xs : List Int) (rs : List (List Tr)) (ks : List Tr) : Prop where
  x1 : 1 <= xs.length
  x4 : xs.length <= 4
  xb : ∀ x ∈ xs,0 <= x /\ x <= 1000000
  r4 : rs.length <= 4
  rb : ∀ ts ∈ rs,TsOk xs.length ts
  k5 : ks.length <= 5
  kb : ∀ t ∈ ks,TkOk xs.length rs.length t
def qV (xs : List Int) (rs : List (List Tr)) (ks : List Tr) : PV:=.tup [.tup (xs.map .int),.tup (rs.map tsV),.tup (ks.map trV)]
theorem good_q (xs : List Int) (rs : List (List Tr)) (ks : List Tr) : good 12 (qV xs rs ks) = true:=by simp [good,qV,tsV,trV]
theorem quest_ok {S : Store} {L : Nat} (T : Tp S L) : ∃ xs rs ks S',Qok xs rs ks /\ Tp S' L /\ F__law_aquestion [.ref L,.int 4] S = .ok (qV xs rs ks) S':=by
  obtain ⟨d1,S1,hd1,T1,M1,e1⟩:=adigit_ok T 4 (by decide) (by decide)
  rw [show ((4 : Nat) : Int) = 4 from rfl] at e1
  obtain ⟨n,hn⟩ : ∃ n : Nat,1 + (d1 : Int) = n:=⟨1 + d1,by push_cast; rfl⟩
  have hnn : 1 <= n /\ n <= 4:=by omega
  have hn1 : -1000000 <= (n : Int) /\ (n : Int) <= 1000000:=by omega
  obtain ⟨out,S2,e2,xs,rfl,hxl,hxb,T2,M2⟩:=compG_inv (g:=fun k : Nat=>PV.int (k : Int)) (xs:=List.range n) (ga:=gaName 0) (me:=e__law_aquestion_1) (w:=[]) (Γ0:=capG [none,some 0] [some (.ref L),some (.int 4),some (.int n),none,none,none,none,none,none,none,none,none,none]) (st:=S1)
    (fun i out st'=>∃ xs : List Int,out = xs.map .int /\ xs.length = i /\ (∀ x ∈ xs,0 <= x /\ x <= 1000000) /\ Tp st' L /\ Mv L S1 st')
    (fun _ _ _ _=>by simp)
    (fun i k out st' hx ⟨xs,g1,g2,g3,T',M'⟩=>by
      subst g1
      obtain ⟨v,S3,hv,T3,M3,e3⟩:=how_ok T' 10 (by decide) (by decide)
      rw [show ((10 : Nat) : Int) = 10 from rfl] at e3
      refine ⟨_,rfl,.int (v - 1),S3,?_,xs ++ [v - 1],by rw [List.map_append]; rfl,by rw [List.length_append,g2]; rfl,fun x hx=>?_,T3,M'.trans M3⟩
      · simp -implicitDefEqProofs [capG,e__law_aquestion_1,e3]
      · rcases List.mem_append.mp hx with hx | hx
        · exact g3 x hx
        · rw [List.mem_singleton.mp hx]; omega)
    ⟨[],rfl,rfl,fun x hx=>(by cases hx),T1,Mv.refl L S1⟩
  rw [List.length_range] at hxl
  rw [<- rangeI0] at e2
  obtain ⟨r,S3,hr,T3,M3,e3⟩:=adigit_ok T2 5 (by decide) (by decide)
  rw [show ((5 : Nat) : Int) = 5 from rfl] at e3
  obtain ⟨d4,S4,hd4,T4,M4,e4⟩:=adigit_ok T3 3 (by decide) (by decide)
  rw [show ((3 : Nat) : Int) = 3 from rfl] at e4
  have T5 : Tp (S4 ++ [.lst []]) L:=T4.of (by rw [List.getElem?_append_left T4.lt])
  have hrb : -1000000 <= (r : Int) /\ (r : Int) <= 1000000:=by omega
  obtain ⟨Γ',S6,e6,b7,b8,b9,b10,rs,rfl,h1,h2,T6,hR6⟩:=forG_inv (g:=fun k : Nat=>PV.int (k : Int)) (xs:=List.range r) (ga:=gaName 7) (body:=b__law_aquestion_1) (w:=[]) (Γ:=qΓ L n (.tup (xs.map .int)) r (1 + (d4 : Int)) S4.length none none none none none none) (st:=S4 ++ [.lst []])
    (fun i Γ st'=>∃ (b7 b8 b9 b10 : Option PV) (rs : List (List Tr)),Γ = qΓ L n (.tup (xs.map .int)) r (1 + (d4 : Int)) S4.length b7 b8 b9 b10 none none /\ (∀ ts ∈ rs,TsOk n ts) /\ rs.length = i /\ Tp st' L /\ st'[S4.length]? = some (.lst (rs.map tsV)))
    (fun _ _ _ _=>by simp)
    (fun i k Γ st' hx ⟨b7,b8,b9,b10,rs,g1,h1,h2,T',hR⟩=>by
      subst g1
      have hi : i < r:=by simpa using (List.getElem?_eq_some_iff.mp hx).1
      obtain ⟨c8,c9,c10,ts,S',ok,T8,hR8,e8⟩:=round44 (n:=n) T' T4.lt (by omega) (by omega) hR (.tup (xs.map .int)) r (1 + (d4 : Int)) (some (.int k)) b8 b9 b10 none none
      refine ⟨_,rfl,_,S',e8,_,_,_,_,rs ++ [ts],rfl,fun u hu=>?_,by rw [List.length_append,h2]; rfl,T8,hR8⟩
      rcases List.mem_append.mp hu with hu | hu
      · exact h1 u hu
      · rw [List.mem_singleton.mp hu]; exact ok)
    ⟨_,_,_,_,[],rfl,fun u hu=>(by cases hu),rfl,T5,by simp⟩
  rw [<- rangeI0] at e6
  rw [List.length_range] at h2
  have hR6l : S4.length < S6.length:=(List.getElem?_eq_some_iff.mp hR6).1
  have T7 : Tp (S6 ++ [.lst []]) L:=T6.of (by rw [List.getElem?_append_left T6.lt])
  obtain ⟨c,S8,hc,T8,M8,e8⟩:=adigit_ok T7 6 (by decide) (by decide)
  rw [show ((6 : Nat) : Int) = 6 from rfl] at e8
  have hK8 : S8[S6.length]? = some (.lst []):=by rw [M8.keep _ (by have:=T6.lt; omega)]; simp
  have hR8 : S8[S4.length]? = some (.lst (rs.map tsV)):=by rw [M8.keep _ (by have:=T4.lt; omega),List.getElem?_append_left hR6l]; exact hR6
  have hcb : -1000000 <= (c : Int) /\ (c : Int) <= 1000000:=by omega
  obtain ⟨Γ',S9,e9,b12,ks,rfl,g1,g2,T9,hK9,hR9⟩:=forG_inv (g:=fun k : Nat=>PV.int (k : Int)) (xs:=List.range c) (ga:=gaName 12) (body:=b__law_aquestion_4) (w:=[]) (Γ:=qΓ L n (.tup (xs.map .int)) r (1 + (d4 : Int)) S4.length b7 b8 b9 b10 (some (.ref S6.length)) none) (st:=S8)
    (fun i Γ st'=>∃ (b12 : Option PV) (ks : List Tr),Γ = qΓ L n (.tup (xs.map .int)) r (1 + (d4 : Int)) S4.length b7 b8 b9 b10 (some (.ref S6.length)) b12 /\ (∀ t ∈ ks,TkOk n r t) /\ ks.length = i /\ Tp st' L /\ st'[S6.length]? = some (.lst (ks.map trV)) /\ st'[S4.length]? = some (.lst (rs.map tsV)))
    (fun _ _ _ _=>by simp)
    (fun i k Γ st' hx ⟨b12,ks,u1,g1,g2,T',hK,hR⟩=>by
      subst u1
      have hi : i < c:=by simpa using (List.getElem?_eq_some_iff.mp hx).1
      obtain ⟨t1,U1,ht1,T1',N1,f1⟩:=adigit_ok T' (r + 1) (by omega) (by omega)
      rw [show ((r + 1 : Nat) : Int) = (r : Int) + 1 by push_cast; rfl] at f1
      obtain ⟨t2,U2,ht2,T2',N2,f2⟩:=adigit_ok T1' n (by omega) (by omega)
      obtain ⟨v,U3,hv,T3',N3,f3⟩:=how_ok T2' 7 (by decide) (by decide)
      rw [show ((7 : Nat) : Int) = 7 from rfl] at f3
      have N:=(N1.trans N2).trans N3
      have hLt:=T6.lt
      have hLt4:=T4.lt
      have hK3 : U3[S6.length]? = some (.lst (ks.map trV)):=by rw [N.keep _ (by omega)]; exact hK
      have hR3 : U3[S4.length]? = some (.lst (rs.map tsV)):=by rw [N.keep _ (by omega)]; exact hR
      have hKl : S6.length < U3.length:=(List.getElem?_eq_some_iff.mp hK3).1
      refine ⟨_,rfl,qΓ L n (.tup (xs.map .int)) r (1 + (d4 : Int)) S4.length b7 b8 b9 b10 (some (.ref S6.length)) (some (.int k)),U3.set S6.length (.lst ((ks ++ [((t1,t2),v)]).map trV)),?_,_,ks ++ [((t1,t2),v)],rfl,fun t ht=>?_,by rw [List.length_append,g2]; rfl,T3'.of (by rw [List.getElem?_set_ne (by omega)]),by rw [List.getElem?_set_self hKl],by rw [List.getElem?_set_ne (by omega)]; exact hR3⟩
      · have hmm : (ks ++ [((t1,t2),v)]).map trV = ks.map trV ++ [.tup [.int t1,.int t2,.int v]]:=by rw [List.map_append]; rfl
        have hlo : listOf st' (.ref S6.length) = some (ks.map trV):=by simp [hK]
        have hll : (ks.map trV).length < 1000000:=by rw [List.length_map]; omega
        rw [hmm]
        unfold qΓ
        generalize ks.map trV = kv at *
        generalize xs.map PV.int = xv at *
        show b__law_aquestion_4 [some (.ref L),some (.int 4),some (.int n),some (.tup xv),some (.int r),some (.int (1 + (d4 : Int))),some (.ref S4.length),b7,b8,b9,b10,some (.ref S6.length),some (.int k)] st' = _
        simp -implicitDefEqProofs [b__law_aquestion_4,hlo,f1,f2,f3,lim_eq,mtAppend,chg,hK3,hll,-listOf_r]
      · rcases List.mem_append.mp ht with ht | ht
        · exact g1 t ht
        · rw [List.mem_singleton.mp ht]
          exact ⟨by show t1 <= r; omega,ht2,hv⟩)
    ⟨_,[],rfl,fun t ht=>(by cases ht),rfl,T8,hK8,hR8⟩
  rw [<- rangeI0] at e9
  rw [List.length_range] at g2
  have Q : Qok xs rs ks:=⟨by omega,by omega,hxb,by omega,fun ts hts=>by rw [hxl]; exact h1 ts hts,by omega,fun t ht=>by rw [hxl,h2]; exact g1 t ht⟩
  have step : m__law_aquestion [some (.ref L),some (.int 4),none,none,none,none,none,none,none,none,none,none,none] S = .rt (qV xs rs ks) S9:=by
    have hxl' : (xs.map PV.int).length = n:=by rw [List.length_map,hxl]
    unfold qV
    unfold qΓ at e6 e9
    generalize xs.map PV.int = xv at *
    generalize rs.map tsV = rv at *
    generalize ks.map trV = kv at *
    simp -implicitDefEqProofs [m__law_aquestion,e1,hn,hn1,lim_eq,e2,e3,e4,hrb,e6,e8,hcb,e9,hR9,hK9]
  have hF : F__law_aquestion [.ref L,.int 4] S = fin S (qV xs rs ks) S9:=by
    show callF m__law_aquestion 13 _ S = _
    unfold callF
    rw [show (([PV.ref L,.int 4] : List PV).map some ++ List.replicate (13 - [PV.ref L,.int 4].length) none) = [some (.ref L),some (.int 4),none,none,none,none,none,none,none,none,none,none,none] from rfl,step]
  by_cases hp : S <+: S9
  · refine ⟨xs,rs,ks,S,Q,T,?_⟩
    rw [hF]
    unfold fin
    rw [if_pos hp,fz_good (good_q xs rs ks) (by decide)]; rfl
  · refine ⟨xs,rs,ks,S9,Q,T9,?_⟩
    rw [hF]
    unfold fin
    rw [if_neg hp]
theorem st_yes {xs : List Int} (h1 : 1 <= xs.length) (h6 : xs.length <= 6) (hb : ∀ x ∈ xs,0 <= x /\ x <= 1000000) (st : Store) : F_is_start [.tup (xs.map .int)] st = .ok (.bl true) st:=by
  have:=start_of (zs:=xs.map fun x=>(.int x,true)) (st:=st) (by rw [List.length_map]; exact h1) (by rw [List.length_map]; exact h6) (fun z hz=>by
    obtain ⟨x,hx,rfl⟩:=List.mem_map.mp hz
    have hbx:=hb x hx
    have:=btw_int x 0 1000000 st
    rw [show (decide ((0 : Int) <= x) && decide (x <= 1000000)) = true by simp; omega] at this
    exact this)
  rw [List.map_map,List.map_map] at this
  rw [show xs.map PV.int = xs.map (Prod.fst ∘ fun x=>(PV.int x,true)) from rfl,this]
  congr 2
  rw [List.all_map,List.all_eq_true]
  intro x _
  rfl
theorem ts_yes {n : Nat} {ts : List Tr} (h : TsOk n ts) (st : Store) : F_are_roads_of_one_round [.int n,tsV ts] st = .ok (.bl true) st:=by
  have:=one_tr h.ok (by have:=h.len; omega) st
  rw [rise_of h.inc] at this
  exact this
theorem pl_yes {n : Nat} {rs : List (List Tr)} (hl : rs.length <= 10) (h : ∀ ts ∈ rs,TsOk n ts) (st : Store) : F_are_roads_of_plan [.int n,.tup (rs.map tsV)] st = .ok (.bl true) st:=by
  have:=plan_of (n:=n) (zs:=rs.map fun ts=>(tsV ts,true)) (st:=st) (by rw [List.length_map]; exact hl) (fun z hz=>by
    obtain ⟨ts,hts,rfl⟩:=List.mem_map.mp hz
    exact ts_yes (h ts hts) st)
  rw [List.map_map,List.map_map] at this
  rw [show rs.map tsV = rs.map (Prod.fst ∘ fun ts=>(tsV ts,true)) from rfl,this]
  congr 2
  rw [List.all_map,List.all_eq_true]
  intro x _
  rfl
theorem tk_yes {n r : Nat} {t : Tr} (h : TkOk n r t) (st : Store) : F_is_taking [.int n,.int r,trV t] st = .ok (.bl true) st:=by
  obtain ⟨h1,h2,h3,h4⟩:=h
  have e1:=btw_int (t.1.2 : Int) 0 ((n : Int) - 1) st
  have e2:=btw_int (t.1.1 : Int) 0 r st
  have e3:=btw_int t.2 1 1000000 st
  rw [show (decide ((0 : Int) <= (t.1.2 : Int)) && decide ((t.1.2 : Int) <= (n : Int) - 1)) = true by simp; omega] at e1
  rw [show (decide ((0 : Int) <= (t.1.1 : Int)) && decide ((t.1.1 : Int) <= (r : Int))) = true by simp; omega] at e2
  rw [show (decide ((1 : Int) <= t.2) && decide (t.2 <= 1000000)) = true by simp; omega] at e3
  exact taking3 e1 e2 e3
theorem tks_of {n r : Nat} {ks : List Tr} (h : ∀ t ∈ ks,TkOk n r t) (hl : ks.length <= 20) (st : Store) : F_are_takings [.int n,.int r,.tup (ks.map trV)] st = .ok (.bl true) st:=by
  have:=takings_of (n:=n) (r:=r) (zs:=ks.map fun t=>(trV t,true)) (st:=st) (by rw [List.length_map]; exact hl) (fun z hz=>by
    obtain ⟨t,ht,rfl⟩:=List.mem_map.mp hz
    exact tk_yes (h t ht) st)
  rw [List.map_map,List.map_map] at this
  rw [show ks.map trV = ks.map (Prod.fst ∘ fun t=>(trV t,true)) from rfl,this]
  congr 2
  rw [List.all_map,List.all_eq_true]
  intro x _
  rfl
theorem tks_bad {n r : Nat} {ks : List Tr} (h : ∀ t ∈ ks,TkOk n r t) (hl : ks.length <= 19) {V : PV} {st : Store} (hV : F_is_taking [.int n,.int r,V] st = .ok (.bl false) st) : F_are_takings [.int n,.int r,.tup (ks.map trV ++ [V])] st = .ok (.bl false) st:=by
  have:=takings_of (n:=n) (r:=r) (zs:=(ks.map fun t=>(trV t,true)) ++ [(V,false)]) (st:=st) (by rw [List.length_append,List.length_map]; simp; omega) (fun z hz=>by
    rcases List.mem_append.mp hz with hz | hz
    · obtain ⟨t,ht,rfl⟩:=List.mem_map.mp hz
      exact tk_yes (h t ht) st
    · rw [List.mem_singleton.mp hz]; exact hV)
  rw [List.map_append,List.map_append,List.map_map,List.map_map] at this
  rw [show ks.map trV ++ [V] = ks.map (Prod.fst ∘ fun t=>(trV t,true)) ++ [V] from rfl]
  refine Eq.trans this ?_
  congr 2
  rw [List.all_append]
  simp
theorem q_yes {xs : List Int} {rs : List (List Tr)} {ks : List Tr} (q : Qok xs rs ks) (st : Store) : F_is_question [qV xs rs ks] st = .ok (.bl true) st:=by
  have h1:=st_yes q.x1 (by have:=q.x4; omega) q.xb st
  have h2:=pl_yes (by have:=q.r4; omega) q.rb st
  have h3:=tks_of q.kb (by have:=q.k5; omega) st
  refine q_take h1 ?_ ?_
  · rw [List.length_map]; exact h2
  · rw [List.length_map,List.length_map]; exact h3
theorem tk_f {n r : Nat} {a b c : PV} {u v w : Bool} {st : Store} (h1 : F_is_between [b,.int 0,.int ((n : Int) - 1)] st = .ok (.bl u) st) (h2 : F_is_between [a,.int 0,.int r] st = .ok (.bl v) st) (h3 : F_is_between [c,.int 1,.int 1000000] st = .ok (.bl w) st) (h : (u && v && w) = false) : F_is_taking [.int n,.int r,.tup [a,b,c]] st = .ok (.bl false) st:=by
  rw [taking3 h1 h2 h3,h]
theorem seq_nx {a b : MS} {Γ Γ1 : Gam} {S S1 : Store} {r : SR} (h1 : a Γ S = .nx Γ1 S1) (h2 : b Γ1 S1 = r) : mSeqS a b Γ S = r:=by rw [mSeqS_eq,h1]; exact h2
theorem set_ok {i : Nat} {m : ME} {Γ : Gam} {S S1 : Store} {v : PV} (h : m Γ S = .ok v S1) : mSet i m Γ S = .nx (Γ.set i (some v)) S1:=by rw [mSet_eq,h]; rfl
theorem call_ok {n : Nat} {F : FN} {mr : ML} {Γ : Gam} {S S1 S2 : Store} {ps : List PV} {v : PV} (h1 : mr Γ S = .ok ps S1) (h2 : ps.length = n) (h3 : F ps S1 = .ok v S2) : mCallF n F mr Γ S = .ok v S2:=by rw [mCallF_eq,h1,bind_ok,if_pos h2,h3]
theorem op_ok {o : OP} {a b : ME} {Γ : Gam} {S S1 S2 S3 : Store} {x y v : PV} (h1 : a Γ S = .ok x S1) (h2 : b Γ S1 = .ok y S2) (h3 : o S2 x y = .ok v S3) : mOp o a b Γ S = .ok v S3:=by rw [mOp_eq,h1,bind_ok,h2,bind_ok,h3]
theorem cons_ok {m : ME} {mr : ML} {Γ : Gam} {S S1 S2 : Store} {p : PV} {ps : List PV} (h1 : m Γ S = .ok p S1) (h2 : mr Γ S1 = .ok ps S2) : mCons m mr Γ S = .ok (p :: ps) S2:=by rw [mCons_eq,h1,bind_ok,h2,bind_ok]
theorem bi_ok {o : CF} {mr : ML} {Γ : Gam} {S S1 S2 : Store} {ps : List PV} {v : PV} (h1 : mr Γ S = .ok ps S1) (h2 : o S1 ps = .ok v S2) : mCall o mr Γ S = .ok v S2:=by rw [mCall_eq,h1,bind_ok,h2]
theorem for_ok {ga : GA} {mi : MI} {b : MS} {Γ : Gam} {S S1 : Store} {xs : List PV} {w : Wt} {r : SR} (h1 : mi Γ S = .ok (xs,w) S1) (h2 : forG ga b w xs Γ S1 = r) : mFor ga mi b Γ S = r:=by rw [mFor_eq,h1]; exact h2
theorem if_t {c : MT} {a b : MS} {Γ : Gam} {S S1 : Store} {r : SR} (h1 : c Γ S = .ok true S1) (h2 : a Γ S1 = r) : mIfS c a b Γ S = r:=by rw [mIfS_eq,h1]; exact h2
theorem if_f {c : MT} {a b : MS} {Γ : Gam} {S S1 : Store} {r : SR} (h1 : c Γ S = .ok false S1) (h2 : b Γ S1 = r) : mIfS c a b Γ S = r:=by rw [mIfS_eq,h1]; exact h2
theorem asg_ok {ga : GA} {m : ME} {Γ Γ1 : Gam} {S S1 : Store} {p : PV} (h1 : m Γ S = .ok p S1) (h2 : ga p Γ = some Γ1) : mAsg ga m Γ S = .nx Γ1 S1:=by rw [mAsg_eq,h1]; show (match ga p Γ with | some Γ1=>SR.nx Γ1 S1 | none=>.stuck) = _; rw [h2]
theorem sq_ok {m : ME} {Γ : Gam} {S S1 : Store} {p : PV} {xs : List PV} {w : Wt} (h1 : m Γ S = .ok p S1) (h2 : srcOf S1 p = some (xs,w)) (h3 : xs.length <= 1000000) : mSeq m Γ S = .ok (xs,w) S1:=by rw [mSeq_eq,h1,bind_ok,h2]; exact if_pos h3
theorem val_ok {m : ML} {Γ : Gam} {S S1 : Store} {ps : List PV} (h : m Γ S = .ok ps S1) : mVal m Γ S = .ok (.lst ps) S1:=by rw [mVal_eq,h,bind_ok]
theorem comp_ok {cap : List (Option Nat)} {ga : GA} {mi : MI} {mt : MT} {me : ME} {Γ : Gam} {S S1 S2 : Store} {xs ys : List PV} {w : Wt} (h1 : mi Γ S = .ok (xs,w) S1) (h2 : compG ga mt me w (capG cap Γ) xs S1 = .ok ys S2) : mCompN cap ga mi mt me Γ S = .ok ys S2:=by rw [mCompN_eq,h1,bind_ok,h2]; rfl
theorem trk_ok {m : ML} {Γ : Gam} {S S1 : Store} {ps : List PV} (h : m Γ S = .ok ps S1) : mTrk m Γ S = .ok (.ref S1.length) (S1 ++ [.lst ps]):=by rw [mTrk_eq,h,bind_ok]
theorem not_ok {t : MT} {Γ : Gam} {S S1 : Store} {b : Bool} (h : t Γ S = .ok b S1) : tNotM t Γ S = .ok (!b) S1:=by rw [tNotM_eq,h,bind_ok]
theorem tb_ok {m : ME} {Γ : Gam} {S S1 : Store} {b : Bool} (h : m Γ S = .ok (.bl b) S1) : toB m Γ S = .ok b S1:=by rw [toB_eq,h]; rfl
theorem app_ok {f : MF} {mo : ME} {mr : ML} {Γ : Gam} {S S1 S2 S3 : Store} {p v : PV} {xs ps : List PV} (h1 : mo Γ S = .ok p S1) (h2 : listOf S1 p = some xs) (h3 : mr Γ S1 = .ok ps S2) (h4 : f S2 p ps = .ok v S3) : mExpr (mBM f mo mr) Γ S = .nx Γ S3:=by
  rw [mExpr_eq,mBM_eq,h1,bind_ok]
  simp only [h2]
  rw [h3,bind_ok,h4,sbind_ok]
theorem exp_ok {m : ME} {Γ : Gam} {S S1 : Store} {v : PV} (h : m Γ S = .ok v S1) : mExpr m Γ S = .nx Γ S1:=by rw [mExpr_eq,h]; rfl
theorem or_t {a b : MT} {Γ : Gam} {S S1 : Store} (h : a Γ S = .ok true S1) : tOrM a b Γ S = .ok true S1:=by rw [tOrM_eq,h]; rfl
theorem or_f {a b : MT} {Γ : Gam} {S S1 : Store} {r : Res Bool} (h : a Γ S = .ok false S1) (h2 : b Γ S1 = r) : tOrM a b Γ S = r:=by rw [tOrM_eq,h]; exact h2
theorem seq_rt {a b : MS} {Γ : Gam} {S S1 : Store} {v : PV} (h : a Γ S = .rt v S1) : mSeqS a b Γ S = .rt v S1:=by rw [mSeqS_eq,h]
theorem tup_ok {mr : ML} {Γ : Gam} {S S1 : Store} {ps : List PV} (h1 : mr Γ S = .ok ps S1) (h2 : ps.length <= 1000000) : mTup mr Γ S = .ok (.tup ps) S1:=by rw [mTup_eq,h1,bind_ok]; exact if_pos h2
theorem callx {n : Nat} {F : FN} {mr : ML} {Γ : Gam} {S S1 S2 : Store} {ps : List PV} {x : Exc} (h1 : mr Γ S = .ok ps S1) (h2 : ps.length = n) (h3 : F ps S1 = .exc x S2) : mCallF n F mr Γ S = .exc x S2:=by rw [mCallF_eq,h1,bind_ok,if_pos h2,h3]
theorem callK_rt {m : MS} {nl : Nat} {ps : List PV} {S S' : Store} {v : PV} (h : m (ps.map some ++ List.replicate (nl - ps.length) none) S = .rt v S') : callK m nl ps S = .ok v S':=by unfold callK; rw [h]
theorem callF_rt {m : MS} {nl : Nat} {ps : List PV} {S S' : Store} {v : PV} (h : m (ps.map some ++ List.replicate (nl - ps.length) none) S = .rt v S') : callF m nl ps S = fin S v S':=by unfold callF; rw [h]
theorem app_lst {S : Store} {L : Nat} {xs : List PV} (h : S[L]? = some (.lst xs)) (hl : xs.length < 1000000) (y : PV) : mtAppend S (.ref L) [y] = .ok .non (S.set L (.lst (xs ++ [y]))):=by
  simp only [mtAppend,chg,h]
  rw [if_pos (show xs.length < lim from hl)]
theorem and_t {a b : MT} {Γ : Gam} {S S1 : Store} {r : Res Bool} (h : a Γ S = .ok true S1) (h2 : b Γ S1 = r) : tAndM a b Γ S = r:=by rw [tAndM_eq,h]; exact h2
theorem and_f {a b : MT} {Γ : Gam} {S S1 : Store} (h : a Γ S = .ok false S1) : tAndM a b Γ S = .ok false S1:=by rw [tAndM_eq,h]; rfl
theorem ret_ok {m : ME} {Γ : Gam} {S S1 : Store} {v : PV} (h : m Γ S = .ok v S1) : mRet m Γ S = .rt v S1:=by rw [mRet_eq,h]; rfl
theorem eqi_t (S : Store) {a b : Int} (h : a = b) : oEq S (.int a) (.int b) = .ok (.bl true) S:=by simp [h]
theorem eqi_f (S : Store) {a b : Int} (h : ¬ a = b) : oEq S (.int a) (.int b) = .ok (.bl false) S:=by simp [h]
theorem lti_t (S : Store) {a b : Int} (h : a < b) : oLt S (.int a) (.int b) = .ok (.bl true) S:=by simp [h]
theorem lti_f (S : Store) {a b : Int} (h : ¬ a < b) : oLt S (.int a) (.int b) = .ok (.bl false) S:=by
  have : oLt S (.int a) (.int b) = .ok (.bl (decide (a < b))) S:=by simp
  rw [this,decide_eq_false h]
theorem addi (S : Store) (a b : Int) : oAdd S (.int a) (.int b) = .ok (.int (a + b)) S:=by simp
theorem bi_lst {mr : ML} {Γ : Gam} {S S1 : Store} {ps : List PV} (h : mr Γ S = .ok ps S1) (hl : ps.length <= 1000000:=by decide) : mLst mr Γ S = .ok (.lst ps) S1:=by
  unfold mLst
  rw [h,bind_ok]
  exact if_pos hl
theorem nei_f (S : Store) (a : Int) : oNe S (.int a) (.int a) = .ok (.bl false) S:=by simp
theorem rg_ok {n : Nat} (hn : n <= 1000) {m : ME} {Γ : Gam} {S : Store} (h : m Γ S = .ok (.int n) S) : mRange1 (mCons m mNil) Γ S = .ok (rangeI 0 n,[]) S:=by
  rw [mRange1_eq,cons_ok h (show mNil Γ S = .ok [] S from rfl),bind_ok]
  show (if -(lim : Int) <= (n : Int) /\ (n : Int) <= lim then _ else _) = _
  rw [if_pos (by rw [lim_eq]; omega),Int.toNat_natCast]
theorem seq_x {a b : MS} {Γ : Gam} {S S1 : Store} {x : Exc} (h : a Γ S = .exc x S1) : mSeqS a b Γ S = .exc x S1:=by rw [mSeqS_eq,h]
theorem exp_x {m : ME} {Γ : Gam} {S S1 : Store} {x : Exc} (h : m Γ S = .exc x S1) : mExpr m Γ S = .exc x S1:=by rw [mExpr_eq,h]; rfl
theorem finX_none (S : Store) (cn : Str) : finX S ⟨cn,none⟩ S = .exc ⟨cn,none⟩ S:=by unfold finX; rw [if_pos List.prefix_rfl]
theorem callF_x {m : MS} {nl : Nat} {ps : List PV} {S : Store} {cn : Str} (h : m (ps.map some ++ List.replicate (nl - ps.length) none) S = .exc ⟨cn,none⟩ S) : callF m nl ps S = .exc ⟨cn,none⟩ S:=by unfold callF; rw [h]; exact finX_none S cn
def piV (z : Int × Int) : PV:=.tup [.int z.1,.int z.2]
def nI (z : Nat × Nat) : Int × Int:=((z.1 : Int),(z.2 : Int))
theorem rd_pi (c : List (Nat × Nat)) : c.map rdV = (c.map nI).map piV:=by rw [List.map_map]; rfl
theorem peq_rd (y : Nat × Nat) (a b : Nat) : peq (rdV y) (.tup [.int a,.int b]) = decide ((a,b) = y):=by
  unfold rdV
  rw [peq,Bool.eq_iff_iff]
  simp only [peqL,peq,Bool.and_true,Bool.and_eq_true,beq_iff_eq,decide_eq_true_eq]
  constructor
  · intro h; exact Prod.ext (by simp; omega) (by simp; omega)
  · intro h; cases h; simp
theorem in_rd {c : List (Nat × Nat)} {V : PV} {S : Store} (hV : ListAt S V (c.map rdV)) (a b : Nat) (neg : Bool) : oIn neg S (.tup [.int a,.int b]) V = .ok (.bl (decide ((a,b) ∈ c) != neg)) S:=by
  have hq : seqOf S V = some (c.map rdV):=by
    rcases hV with rfl | rfl | ⟨i,rfl,e⟩
    · rfl
    · rfl
    · rw [seqOf_r,e]
  have g2 : (c.map rdV).all (good dep) = true:=by simp [good,dep,rdV]
  have g1 : good dep (.tup [.int (a : Int),.int b]) = true:=rfl
  have hd : der S (.tup [.int (a : Int),.int b]) = .tup [.int a,.int b]:=rfl
  have ha : ((c.map rdV).any fun y=>peq y (.tup [.int a,.int b])) = decide ((a,b) ∈ c):=by
    rw [List.any_map,Bool.eq_iff_iff,List.any_eq_true,decide_eq_true_iff]
    constructor
    · rintro ⟨y,hy,e⟩
      have e : peq (rdV y) (.tup [.int a,.int b]) = true:=e
      rw [peq_rd,decide_eq_true_eq] at e
      rw [e]; exact hy
    · intro h
      exact ⟨_,h,by show peq (rdV (a,b)) (.tup [.int a,.int b]) = true; rw [peq_rd,decide_eq_true_eq]⟩
  unfold oIn
  rw [hq,hd]
  simp only [g1,g2,and_self,if_true,ha]
def plc (n r : Nat) (z : Int × Int) : Bool:=(decide ((0 : Int) <= z.1) && decide (z.1 <= (n : Int) - 1)) && (decide ((0 : Int) <= z.2) && decide (z.2 <= (r : Int)))
theorem place_ok (n r : Nat) (z : Int × Int) (S : Store) : F_is_place [.int n,.int r,.int z.1,.int z.2] S = .ok (.bl (plc n r z)) S:=by
  have b1:=btw_int z.1 0 ((n : Int) - 1) S
  have b2:=btw_int z.2 0 r S
  unfold plc
  cases h : (decide ((0 : Int) <= z.1) && decide (z.1 <= (n : Int) - 1)) with
  | false=>
    rw [h] at b1
    simp -implicitDefEqProofs [F_is_place,callF,m_is_place,b1]
  | true=>
    rw [h] at b1
    simp -implicitDefEqProofs [F_is_place,callF,m_is_place,b1,b2]
section
variable {xs : List Int} {rs : List (List Tr)} {ks : List Tr} {S : Store}
theorem q_n (S : Store) : cLen S [.tup (xs.map .int)] = .ok (.int xs.length) S:=by simp
theorem q_r (S : Store) : cLen S [.tup (rs.map tsV)] = .ok (.int rs.length) S:=by simp
abbrev icG (xs : List Int) (rs : List (List Tr)) (ks : List Tr) (V : PV) (c2 c3 : Option PV) : Gam:=[some (qV xs rs ks),some V,c2,c3]
theorem cut_pl (c : List (Int × Int)) (hl : c.length <= 1000) (S : Store) : mCall (cBls fun ns=>.bl (ns.all id)) (mCons (mVal (mCompN [none,none,some 2,some 3] (gaTup (gaCons (gaName 0) (gaCons (gaName 1) gaNil))) (mSeq (mVar 1)) mTrue e_is_cut_1)) mNil) (icG xs rs ks (.lst (c.map piV)) (some (.int xs.length)) (some (.int rs.length))) S = .ok (.bl (c.all (plc xs.length rs.length))) S:=by
  have hc : compG (gaTup (gaCons (gaName 0) (gaCons (gaName 1) gaNil))) mTrue e_is_cut_1 [] [none,none,some (.int xs.length),some (.int rs.length)] (c.map piV) S = .ok ((c.map (plc xs.length rs.length)).map .bl) S:=by
    rw [List.map_map]
    exact compG_on _ _ (by simp) fun z _=>⟨_,rfl,call_ok (n:=4) (cons_ok rfl (cons_ok rfl (cons_ok rfl (cons_ok rfl rfl)))) rfl (place_ok _ _ z S)⟩
  refine bi_ok (cons_ok (val_ok (comp_ok (sq_ok (p:=.lst (c.map piV)) rfl rfl (by rw [List.length_map]; omega)) hc)) rfl) ?_
  rw [cBls_lst,List.all_map]; rfl
theorem cut_bad {c : List (Int × Int)} (hl : c.length <= 1000) (h : c.all (plc xs.length rs.length) = false) (S : Store) : F_is_cut [qV xs rs ks,.lst (c.map piV)] S = .ok (.bl false) S:=by
  have e:=cut_pl (xs:=xs) (rs:=rs) (ks:=ks) c hl S
  rw [h] at e
  have step : m_is_cut (icG xs rs ks (.lst (c.map piV)) none none) S = .rt (.bl false) S:=
    seq_nx (Γ1:=icG xs rs ks (.lst (c.map piV)) (some (.int xs.length)) none) (set_ok (bi_ok (cons_ok (op_ok rfl rfl rfl) rfl) (q_n S))) (seq_nx (Γ1:=icG xs rs ks (.lst (c.map piV)) (some (.int xs.length)) (some (.int rs.length))) (set_ok (bi_ok (cons_ok (op_ok rfl rfl rfl) rfl) (q_r S))) (seq_rt (if_t (or_t (not_ok (tb_ok e))) rfl)))
  exact (callF_rt step).trans (fin_bl S false)
def clsB (r : Nat) (c : List (Nat × Nat)) : Bool:=(c.filter fun z=>decide (z.2 < r)).all fun z=>decide ((z.1,z.2 + 1) ∈ c)
theorem cut_ok {c : List (Nat × Nat)} (hl : c.length <= 1000) (h : ∀ z ∈ c,z.1 < xs.length /\ z.2 <= rs.length) (S : Store) : F_is_cut [qV xs rs ks,.lst (c.map rdV)] S = .ok (.bl (riseP c && clsB rs.length c)) S:=by
  have e:=cut_pl (xs:=xs) (rs:=rs) (ks:=ks) (c.map nI) (by rw [List.length_map]; exact hl) S
  have hp : (c.map nI).all (plc xs.length rs.length) = true:=by
    rw [List.all_map,List.all_eq_true]
    intro z hz
    have:=h z hz
    show plc xs.length rs.length (nI z) = true
    unfold plc nI
    simp only [Bool.and_eq_true,decide_eq_true_eq]
    omega
  rw [hp,<- rd_pi] at e
  have er:=riseL_ok c hl S
  have s2 : mSet 2 (mCall cLen (mCons (mOp oIx (mVar 0) (mC (.int 0))) mNil)) (icG xs rs ks (.lst (c.map rdV)) none none) S = .nx (icG xs rs ks (.lst (c.map rdV)) (some (.int xs.length)) none) S:=set_ok (bi_ok (cons_ok (op_ok rfl rfl rfl) rfl) (q_n S))
  have s3 : mSet 3 (mCall cLen (mCons (mOp oIx (mVar 0) (mC (.int 1))) mNil)) (icG xs rs ks (.lst (c.map rdV)) (some (.int xs.length)) none) S = .nx (icG xs rs ks (.lst (c.map rdV)) (some (.int xs.length)) (some (.int rs.length))) S:=set_ok (bi_ok (cons_ok (op_ok rfl rfl rfl) rfl) (q_r S))
  cases hr : riseP c with
  | false=>
    rw [hr] at er
    have step : m_is_cut (icG xs rs ks (.lst (c.map rdV)) none none) S = .rt (.bl false) S:=seq_nx s2 (seq_nx s3 (seq_rt (if_t (or_f (not_ok (tb_ok e)) (not_ok (tb_ok (call_ok (n:=1) (cons_ok rfl rfl) rfl er)))) rfl)))
    exact (callF_rt step).trans (fin_bl S false)
  | true=>
    rw [hr] at er
    have hc : compG (gaTup (gaCons (gaName 0) (gaCons (gaName 1) gaNil))) t_is_cut_2 e_is_cut_2 [] [none,none,some (.lst (c.map rdV)),some (.int rs.length)] (c.map rdV) S = .ok ((c.filter fun z=>decide (z.2 < rs.length)).map fun z=>.bl (decide ((z.1,z.2 + 1) ∈ c))) S:=by
      refine compG_onF _ _ _ (by simp) fun z _=>⟨_,rfl,?_,fun _=>?_⟩
      · by_cases q : z.2 < rs.length
        · rw [decide_eq_true q]; exact tb_ok (op_ok rfl rfl (lti_t S (by omega)))
        · rw [decide_eq_false q]; exact tb_ok (op_ok rfl rfl (lti_f S (by omega)))
      · have:=in_rd (V:=.lst (c.map rdV)) (S:=S) (.inl rfl) z.1 (z.2 + 1) false
        rw [Bool.bne_false] at this
        exact op_ok (tup_ok (cons_ok rfl (cons_ok (op_ok rfl rfl (addi S _ _)) rfl)) (by simp)) rfl this
    have ha : cBls (fun ns=>.bl (ns.all id)) S [.lst ((c.filter fun z=>decide (z.2 < rs.length)).map fun z=>.bl (decide ((z.1,z.2 + 1) ∈ c)))] = .ok (.bl (clsB rs.length c)) S:=by
      have:=cBls_lst (fun ns=>.bl (ns.all id)) S ((c.filter fun z=>decide (z.2 < rs.length)).map fun z=>decide ((z.1,z.2 + 1) ∈ c))
      rw [List.map_map,List.all_map] at this
      exact this
    have step : m_is_cut (icG xs rs ks (.lst (c.map rdV)) none none) S = .rt (.bl (clsB rs.length c)) S:=seq_nx s2 (seq_nx s3 (seq_nx (if_f (or_f (not_ok (tb_ok e)) (not_ok (tb_ok (call_ok (n:=1) (cons_ok rfl rfl) rfl er)))) rfl) (ret_ok (bi_ok (cons_ok (val_ok (comp_ok (sq_ok (p:=.lst (c.map rdV)) rfl rfl (by rw [List.length_map]; omega)) hc)) rfl) ha))))
    exact (callF_rt step).trans (fin_bl S _)
theorem filt_sum {α : Type} (p : α -> Bool) (f : α -> Int) : ∀ l : List α,((l.filter p).map f).sum = (l.map fun x=>if p x = true then f x else 0).sum
  | []=>rfl
  | x :: l=>by
    rw [List.filter_cons,List.map_cons,List.sum_cons,<- filt_sum p f l]
    split
    · rw [List.map_cons,List.sum_cons]
    · omega
def wA (xs : List Int) (c : List (Nat × Nat)) : Int:=upto xs.length fun h=>if (h,0) ∈ c then 0 else xs.getD h 0
def wR (c : List (Nat × Nat)) (t : Nat) (ts : List Tr) : Int:=(ts.map fun z=>if (z.1.1,t) ∈ c /\ (z.1.2,t + 1) ∉ c then z.2 else 0).sum
def wB (rs : List (List Tr)) (c : List (Nat × Nat)) : Int:=upto rs.length fun t=>wR c t (rs.getD t [])
def wC (ks : List Tr) (c : List (Nat × Nat)) : Int:=(ks.map fun z=>if (z.1.2,z.1.1) ∈ c then z.2 else 0).sum
theorem enum_rg {α : Type} (g : α -> PV) (d : α) (l : List α) : enumT 0 (l.map g) = (List.range l.length).map fun i : Nat=>PV.tup [.int (i : Int),g (l.getD i d)]:=by
  refine List.ext_getElem? fun i=>?_
  by_cases h : i < l.length
  · rw [List.getElem?_map,List.getElem?_range h]
    obtain ⟨p,hp⟩ : ∃ p,(enumT 0 (l.map g))[i]? = some p:=⟨_,List.getElem?_eq_getElem (by rw [enumT_len,List.length_map]; exact h)⟩
    obtain ⟨x,e1,e2⟩:=enumT_get hp
    rw [List.getElem?_map,getD_some h d] at e2
    cases e2
    rw [hp,e1]
    simp
  · rw [List.getElem?_eq_none (by rw [enumT_len,List.length_map]; omega),List.getElem?_eq_none (by rw [List.length_map,List.length_range]; omega)]
theorem wround_ok {c : List (Nat × Nat)} (ts : List Tr) (hl : ts.length <= 1000) (t : Nat) (S : Store) : F_weight_of_round [tsV ts,.lst (c.map rdV),.int t] S = .ok (.int (wR c t ts)) S:=by
  have hV : ListAt S (.lst (c.map rdV)) (c.map rdV):=.inl rfl
  have hc1 : compG (gaName 0) t_weight_of_round_1 e_weight_of_round_1 [] [none,some (.lst (c.map rdV)),some (.int t)] (ts.map trV) S = .ok ((ts.filter fun z=>decide ((z.1.1,t) ∈ c) && !decide ((z.1.2,t + 1) ∈ c)).map trV) S:=by
    refine compG_onF _ _ _ (by simp) fun z _=>⟨_,rfl,?_,fun _=>rfl⟩
    have i1:=in_rd hV z.1.1 t false
    have i2:=in_rd hV z.1.2 (t + 1) true
    have m1 : toB (mOp (oIn false) (mTup (mCons (mOp oIx (mVar 0) (mC (.int 0))) (mCons (mVar 2) mNil))) (mVar 1)) [some (trV z),some (.lst (c.map rdV)),some (.int t)] S = .ok (decide ((z.1.1,t) ∈ c) != false) S:=tb_ok (op_ok (tup_ok (cons_ok (op_ok rfl rfl rfl) (cons_ok rfl rfl)) (by simp)) rfl i1)
    have m2 : toB (mOp (oIn true) (mTup (mCons (mOp oIx (mVar 0) (mC (.int 1))) (mCons (mOp oAdd (mVar 2) (mC (.int 1))) mNil))) (mVar 1)) [some (trV z),some (.lst (c.map rdV)),some (.int t)] S = .ok (decide ((z.1.2,t + 1) ∈ c) != true) S:=tb_ok (op_ok (tup_ok (cons_ok (op_ok rfl rfl rfl) (cons_ok (op_ok rfl rfl (addi S _ _)) rfl)) (by simp)) rfl i2)
    cases q : decide ((z.1.1,t) ∈ c) with
    | false=>rw [q] at m1; exact and_f m1
    | true=>
      rw [q] at m1
      refine (and_t m1 m2).trans ?_
      cases decide ((z.1.2,t + 1) ∈ c) <;> rfl
  obtain ⟨us,hus⟩ : ∃ us,(ts.filter fun z=>decide ((z.1.1,t) ∈ c) && !decide ((z.1.2,t + 1) ∈ c)) = us:=⟨_,rfl⟩
  have ul : us.length <= 1000:=by rw [<- hus]; exact Nat.le_trans (List.length_filter_le _ _) hl
  rw [hus] at hc1
  have hc2 : compG (gaName 0) mTrue e_weight_of_round_2 [] [none] (us.map trV) S = .ok (us.map fun z=>.int z.2) S:=compG_on _ _ (by simp) fun z _=>⟨_,rfl,op_ok rfl rfl rfl⟩
  have su : cInts (fun ns=>some (.int ns.sum)) S [.lst (us.map fun z=>.int z.2)] = .ok (.int (wR c t ts)) S:=by
    rw [cInts_map,<- hus,filt_sum]
    show Res.ok (PV.int _) S = _
    unfold wR
    congr 3
    refine List.map_congr_left fun z _=>?_
    by_cases a : (z.1.1,t) ∈ c <;> by_cases b : (z.1.2,t + 1) ∈ c <;> simp [a,b]
  have step : m_weight_of_round [some (tsV ts),some (.lst (c.map rdV)),some (.int t),none] S = .rt (.int (wR c t ts)) S:=
    seq_nx (Γ1:=[some (tsV ts),some (.lst (c.map rdV)),some (.int t),some (.lst (us.map trV))]) (set_ok (val_ok (comp_ok (sq_ok (p:=tsV ts) rfl rfl (by rw [List.length_map]; omega)) hc1))) (ret_ok (bi_ok (cons_ok (val_ok (comp_ok (sq_ok (p:=.lst (us.map trV)) rfl rfl (by rw [List.length_map]; omega)) hc2)) rfl) su))
  exact (callF_rt step).trans (fin_int S _)
end
theorem callF_nx {m : MS} {nl : Nat} {ps : List PV} {S : Store} {Γ' : Gam} (h : m (ps.map some ++ List.replicate (nl - ps.length) none) S = .nx Γ' S) : callF m nl ps S = .ok .non S:=by unfold callF; rw [h]; exact fin_non S
section
variable {xs : List Int} {rs : List (List Tr)} {ks : List Tr} {S : Store} {c : List (Nat × Nat)}
theorem needq_ok (q : Qok xs rs ks) (S : Store) : F_need_question [qV xs rs ks] S = .ok .non S:=
  callF_nx (m:=m_need_question) (nl:=1) (if_f (not_ok (tb_ok (call_ok (n:=1) (cons_ok rfl rfl) rfl (q_yes q S)))) rfl)
theorem sumIf {α : Type} (l : List α) (p : α -> Prop) [DecidablePred p] (f : α -> Int) (neg : Bool) : ((l.filter fun x=>decide (p x) != neg).map f).sum = (l.map fun x=>if (decide (p x) != neg) = true then f x else 0).sum:=filt_sum _ _ l
theorem hcA {V : PV} (hV : ListAt S V (c.map rdV)) : compG (gaTup (gaCons (gaName 0) (gaCons (gaName 1) gaNil))) t_weight_1 e_weight_1 [] [none,none,some V] ((List.range xs.length).map fun i : Nat=>PV.tup [.int (i : Int),.int (xs.getD i 0)]) S = .ok (((List.range xs.length).filter fun i=>decide ((i,0) ∈ c) != true).map fun i=>.int (xs.getD i 0)) S:=
  compG_onF _ _ _ (by simp) fun i _=>⟨_,rfl,tb_ok (op_ok (tup_ok (cons_ok rfl (cons_ok rfl rfl)) (by simp)) rfl (in_rd hV i 0 true)),fun _=>rfl⟩
theorem hcC {V : PV} {tt : MT} {ee : ME} (hV : ListAt S V (c.map rdV)) (ht : tt = toB (mOp (oIn false) (mTup (mCons (mOp oIx (mVar 0) (mC (.int 1))) (mCons (mOp oIx (mVar 0) (mC (.int 0))) mNil))) (mVar 1))) (he : ee = mOp oIx (mVar 0) (mC (.int 2))) : compG (gaName 0) tt ee [] [none,some V] (ks.map trV) S = .ok ((ks.filter fun z=>decide ((z.1.2,z.1.1) ∈ c) != false).map fun z=>.int z.2) S:=by
  rw [ht,he]
  exact compG_onF _ _ _ (by simp) fun z _=>⟨_,rfl,tb_ok (op_ok (tup_ok (cons_ok (op_ok rfl rfl rfl) (cons_ok (op_ok rfl rfl rfl) rfl)) (by simp)) rfl (in_rd hV z.1.2 z.1.1 false)),fun _=>op_ok rfl rfl rfl⟩
theorem suA : cInts (fun ns=>some (.int ns.sum)) S [.lst (((List.range xs.length).filter fun i=>decide ((i,0) ∈ c) != true).map fun i=>.int (xs.getD i 0))] = .ok (.int (wA xs c)) S:=by
  rw [cInts_map,sumIf]
  show Res.ok (PV.int _) S = _
  unfold wA upto
  congr 3
  refine List.map_congr_left fun i _=>?_
  by_cases a : (i,0) ∈ c <;> simp [a]
theorem suC : cInts (fun ns=>some (.int ns.sum)) S [.lst ((ks.filter fun z=>decide ((z.1.2,z.1.1) ∈ c) != false).map fun z=>.int z.2)] = .ok (.int (wC ks c)) S:=by
  rw [cInts_map,sumIf ks (fun z=>(z.1.2,z.1.1) ∈ c)]
  show Res.ok (PV.int _) S = _
  unfold wC
  congr 3
  refine List.map_congr_left fun z _=>?_
  by_cases a : (z.1.2,z.1.1) ∈ c <;> simp [a]
abbrev wG (xs : List Int) (rs : List (List Tr)) (ks : List Tr) (V : PV) (c2 c3 c4 : Option PV) : Gam:=[some (qV xs rs ks),some V,c2,c3,c4]
theorem weight_ok (q : Qok xs rs ks) (hl : c.length <= 1000) (h : ∀ z ∈ c,z.1 < xs.length /\ z.2 <= rs.length) (hr : riseP c = true) (hk : clsB rs.length c = true) (S : Store) : F_weight [qV xs rs ks,.lst (c.map rdV)] S = .ok (.int (wA xs c + wB rs c + wC ks c)) S:=by
  have e1:=needq_ok q S
  have e2:=cut_ok (xs:=xs) (rs:=rs) (ks:=ks) hl h S
  rw [hr,hk] at e2
  have hV : ListAt S (.lst (c.map rdV)) (c.map rdV):=.inl rfl
  have x4:=q.x4
  have r4:=q.r4
  have k5:=q.k5
  have en1 : mEnum (mCons (mOp oIx (mVar 0) (mC (.int 0))) mNil) (wG xs rs ks (.lst (c.map rdV)) none none none) S = .ok ((List.range xs.length).map fun i : Nat=>PV.tup [.int (i : Int),.int (xs.getD i 0)],[]) S:=by
    rw [mEnum_eq,cons_ok (p:=.tup (xs.map .int)) (op_ok rfl rfl rfl) (show mNil _ S = .ok [] S from rfl),bind_ok,<- enum_rg PV.int 0 xs]
    exact if_pos (by rw [List.length_map,lim_eq]; omega)
  have en2 : mEnum (mCons (mOp oIx (mVar 0) (mC (.int 1))) mNil) (wG xs rs ks (.lst (c.map rdV)) (some (.int (wA xs c))) none none) S = .ok ((List.range rs.length).map fun i : Nat=>PV.tup [.int (i : Int),tsV (rs.getD i [])],[]) S:=by
    rw [mEnum_eq,cons_ok (p:=.tup (rs.map tsV)) (op_ok rfl rfl rfl) (show mNil _ S = .ok [] S from rfl),bind_ok,<- enum_rg tsV [] rs]
    exact if_pos (by rw [List.length_map,lim_eq]; omega)
  have hcB : compG (gaTup (gaCons (gaName 0) (gaCons (gaName 1) gaNil))) mTrue e_weight_2 [] [none,none,some (.lst (c.map rdV))] ((List.range rs.length).map fun i : Nat=>PV.tup [.int (i : Int),tsV (rs.getD i [])]) S = .ok ((List.range rs.length).map fun t=>.int (wR c t (rs.getD t []))) S:=
    compG_on _ _ (by simp) fun t ht=>⟨_,rfl,call_ok (n:=3) (cons_ok rfl (cons_ok rfl (cons_ok rfl rfl))) rfl (wround_ok _ (by
      have:=(q.rb _ (List.mem_of_getElem? (getD_some (List.mem_range.mp ht) []))).len
      omega) t S)⟩
  have suB : cInts (fun ns=>some (.int ns.sum)) S [.lst ((List.range rs.length).map fun t=>.int (wR c t (rs.getD t [])))] = .ok (.int (wB rs c)) S:=by rw [cInts_map]; rfl
  have step : m_weight (wG xs rs ks (.lst (c.map rdV)) none none none) S = .rt (.int (wA xs c + wB rs c + wC ks c)) S:=by
    refine seq_nx (exp_ok (call_ok (n:=1) (cons_ok rfl rfl) rfl e1)) ?_
    refine seq_nx (if_f (not_ok (tb_ok (call_ok (n:=2) (cons_ok rfl (cons_ok rfl rfl)) rfl e2))) rfl) ?_
    refine seq_nx (Γ1:=wG xs rs ks (.lst (c.map rdV)) (some (.int (wA xs c))) none none) (set_ok (bi_ok (cons_ok (val_ok (comp_ok en1 (hcA hV))) rfl) suA)) ?_
    refine seq_nx (Γ1:=wG xs rs ks (.lst (c.map rdV)) (some (.int (wA xs c))) (some (.int (wB rs c))) none) (set_ok (bi_ok (cons_ok (val_ok (comp_ok en2 hcB)) rfl) suB)) ?_
    refine seq_nx (Γ1:=wG xs rs ks (.lst (c.map rdV)) (some (.int (wA xs c))) (some (.int (wB rs c))) (some (.int (wC ks c)))) (set_ok (bi_ok (cons_ok (val_ok (comp_ok (sq_ok (p:=.tup (ks.map trV)) (op_ok rfl rfl rfl) rfl (by rw [List.length_map]; omega)) (hcC hV rfl rfl))) rfl) suC)) ?_
    exact ret_ok (op_ok (op_ok rfl rfl (addi S _ _)) rfl (addi S _ _))
  exact (callF_rt step).trans (fin_int S _)
abbrev awG (xs : List Int) (rs : List (List Tr)) (ks : List Tr) (V : PV) (t : Int) (c6 c7 c8 c9 c10 : Option PV) : Gam:=[some (qV xs rs ks),some V,some (.tup (xs.map .int)),some (.tup (rs.map tsV)),some (.tup (ks.map trV)),some (.int t),c6,c7,c8,c9,c10]
theorem aweight_ok (q : Qok xs rs ks) {V : PV} (hV : ListAt S V (c.map rdV)) : F__law_aweight [qV xs rs ks,V] S = .ok (.int (wA xs c + wB rs c + wC ks c)) S:=by
  have x4:=q.x4
  have r4:=q.r4
  have k5:=q.k5
  obtain ⟨Γ1,S1,f1,c6,rfl,rfl⟩:=forG_inv (g:=fun k : Nat=>PV.int (k : Int)) (xs:=List.range xs.length) (ga:=gaName 6) (body:=b__law_aweight_1) (w:=[]) (Γ:=awG xs rs ks V 0 none none none none none) (st:=S)
    (fun k Γ st=>∃ c6,Γ = awG xs rs ks V (upto k fun h=>if (h,0) ∈ c then 0 else xs.getD h 0) c6 none none none none /\ st = S) (fun _ _ _ _=>by simp)
    (fun k x Γ st hx ⟨c6,hΓ,hst⟩=>by
      subst hΓ; subst hst
      have hk : k < xs.length:=by simpa using (List.getElem?_eq_some_iff.mp hx).1
      rw [List.getElem?_range hk] at hx
      cases hx
      have i1:=in_rd hV k 0 true
      have ix : oIx st (.tup (xs.map .int)) (.int k) = .ok (.int (xs.getD k 0)) st:=by
        show okO st (atI (xs.map PV.int) (k : Int)) = _
        rw [atI_map,Sm.atI_get (getD_some hk 0)]; rfl
      refine ⟨_,rfl,?_⟩
      by_cases a : (k,0) ∈ c
      · rw [decide_eq_true a] at i1
        refine ⟨_,_,if_f (tb_ok (op_ok (tup_ok (cons_ok rfl (cons_ok rfl rfl)) (by simp)) rfl i1)) rfl,some (.int k),?_,rfl⟩
        rw [upto_succ,if_pos a,Int.add_zero]; rfl
      · rw [decide_eq_false a] at i1
        refine ⟨_,_,if_t (tb_ok (op_ok (tup_ok (cons_ok rfl (cons_ok rfl rfl)) (by simp)) rfl i1)) (set_ok (op_ok rfl (op_ok rfl rfl ix) (addi st _ _))),some (.int k),?_,rfl⟩
        rw [upto_succ,if_neg a]; rfl)
    ⟨_,rfl,rfl⟩
  rw [<- rangeI0,List.length_range] at f1
  obtain ⟨Γ2,S2,f2,c7,c8,c9,c10,rfl,rfl⟩:=forG_inv (g:=fun k : Nat=>PV.int (k : Int)) (xs:=List.range rs.length) (ga:=gaName 7) (body:=b__law_aweight_2) (w:=[]) (Γ:=awG xs rs ks V (wA xs c) c6 none none none none) (st:=S1)
    (fun k Γ st=>∃ c7 c8 c9 c10,Γ = awG xs rs ks V (wA xs c + upto k fun t=>wR c t (rs.getD t [])) c6 c7 c8 c9 c10 /\ st = S1) (fun _ _ _ _=>by simp)
    (fun k x Γ st hx ⟨c7,c8,c9,c10,hΓ,hst⟩=>by
      subst hΓ; subst hst
      have hk : k < rs.length:=by simpa using (List.getElem?_eq_some_iff.mp hx).1
      rw [List.getElem?_range hk] at hx
      cases hx
      have ix : oIx st (.tup (rs.map tsV)) (.int k) = .ok (tsV (rs.getD k [])) st:=by
        show okO st (atI (rs.map tsV) (k : Int)) = _
        rw [atI_map,Sm.atI_get (getD_some hk [])]; rfl
      have tl:=(q.rb _ (List.mem_of_getElem? (getD_some hk []))).len
      obtain ⟨ts,hts⟩ : ∃ ts,rs.getD k [] = ts:=⟨_,rfl⟩
      obtain ⟨T0,hT0⟩ : ∃ T0,(wA xs c + upto k fun t=>wR c t (rs.getD t [])) = T0:=⟨_,rfl⟩
      rw [hts] at ix tl
      obtain ⟨Γ3,S3,f3,d8,d9,d10,rfl,rfl⟩:=forG_invL (g:=trV) (xs:=ts) (ga:=gaTup (gaCons (gaName 8) (gaCons (gaName 9) (gaCons (gaName 10) gaNil)))) (body:=b__law_aweight_3) (w:=[]) (Γ:=awG xs rs ks V T0 c6 (some (.int k)) c8 c9 c10) (st:=st)
        (fun pre Γ st'=>∃ d8 d9 d10,Γ = awG xs rs ks V (T0 + wR c k pre) c6 (some (.int k)) d8 d9 d10 /\ st' = st) (fun _ _ _ _=>by simp)
        (fun pre z post Γ st' hz ⟨d8,d9,d10,hΓ,hst⟩=>by
          subst hΓ; subst hst
          have i1:=in_rd hV z.1.1 k false
          have i2:=in_rd hV z.1.2 (k + 1) true
          have ws : wR c k (pre ++ [z]) = wR c k pre + if (z.1.1,k) ∈ c /\ (z.1.2,k + 1) ∉ c then z.2 else 0:=by
            unfold wR
            rw [List.map_append,List.sum_append]; simp
          have m1 : toB (mOp (oIn false) (mTup (mCons (mVar 8) (mCons (mVar 7) mNil))) (mVar 1)) (awG xs rs ks V (T0 + wR c k pre) c6 (some (.int k)) (some (.int z.1.1)) (some (.int z.1.2)) (some (.int z.2))) st' = .ok (decide ((z.1.1,k) ∈ c) != false) st':=tb_ok (op_ok (tup_ok (cons_ok rfl (cons_ok rfl rfl)) (by simp)) rfl i1)
          have m2 : toB (mOp (oIn true) (mTup (mCons (mVar 9) (mCons (mOp oAdd (mVar 7) (mC (.int 1))) mNil))) (mVar 1)) (awG xs rs ks V (T0 + wR c k pre) c6 (some (.int k)) (some (.int z.1.1)) (some (.int z.1.2)) (some (.int z.2))) st' = .ok (decide ((z.1.2,k + 1) ∈ c) != true) st':=tb_ok (op_ok (tup_ok (cons_ok rfl (cons_ok (op_ok rfl rfl (addi st' _ _)) rfl)) (by simp)) rfl i2)
          refine ⟨_,rfl,?_⟩
          by_cases a : (z.1.1,k) ∈ c
          · rw [decide_eq_true a] at m1
            by_cases b : (z.1.2,k + 1) ∈ c
            · rw [decide_eq_true b] at m2
              refine ⟨_,_,if_f (and_t m1 m2) rfl,some (.int z.1.1),some (.int z.1.2),some (.int z.2),?_,rfl⟩
              rw [ws,if_neg (fun h=>h.2 b),Int.add_zero]; rfl
            · rw [decide_eq_false b] at m2
              refine ⟨_,_,if_t (and_t m1 m2) (set_ok (op_ok rfl rfl (addi st' _ _))),some (.int z.1.1),some (.int z.1.2),some (.int z.2),?_,rfl⟩
              rw [ws,if_pos ⟨a,b⟩,<- Int.add_assoc]; rfl
          · rw [decide_eq_false a] at m1
            refine ⟨_,_,if_f (and_f m1) rfl,some (.int z.1.1),some (.int z.1.2),some (.int z.2),?_,rfl⟩
            rw [ws,if_neg (fun h=>a h.1),Int.add_zero]; rfl)
        ⟨_,_,_,by rw [show wR c k [] = 0 from rfl,Int.add_zero],rfl⟩
      refine ⟨awG xs rs ks V T0 c6 (some (.int k)) c8 c9 c10,by rw [hT0]; rfl,_,_,for_ok (sq_ok (p:=tsV ts) (op_ok rfl rfl ix) rfl (by rw [List.length_map]; omega)) f3,some (.int k),d8,d9,d10,?_,rfl⟩
      rw [upto_succ,<- Int.add_assoc,hT0,hts])
    ⟨none,none,none,none,by rw [show upto 0 (fun t=>wR c t (rs.getD t [])) = 0 from rfl,Int.add_zero],rfl⟩
  rw [<- rangeI0,List.length_range] at f2
  have step : m__law_aweight [some (qV xs rs ks),some V,none,none,none,none,none,none,none,none,none] S2 = .rt (.int (wA xs c + wB rs c + wC ks c)) S2:=by
    refine seq_nx (Γ1:=[some (qV xs rs ks),some V,some (.tup (xs.map .int)),some (.tup (rs.map tsV)),some (.tup (ks.map trV)),none,none,none,none,none,none]) (asg_ok rfl rfl) ?_
    refine seq_nx (Γ1:=awG xs rs ks V 0 none none none none none) (set_ok rfl) ?_
    refine seq_nx (for_ok (rg_ok (by omega) (bi_ok (cons_ok rfl rfl) (q_n S2))) f1) ?_
    refine seq_nx (for_ok (rg_ok (by omega) (bi_ok (cons_ok rfl rfl) (q_r S2))) f2) ?_
    exact ret_ok (op_ok rfl (bi_ok (cons_ok (val_ok (comp_ok (sq_ok (p:=.tup (ks.map trV)) rfl rfl (by rw [List.length_map]; omega)) (hcC hV rfl rfl))) rfl) suC) (addi S2 _ _))
  exact (callF_rt step).trans (fin_int S2 _)
end
def LA (S : Store) (V : PV) (xs : List PV) : Prop:=V = .lst xs \/ ∃ i,V = .ref i /\ S[i]? = some (.lst xs)
theorem LA.at_ {S : Store} {V : PV} {xs : List PV} (h : LA S V xs) : ListAt S V xs:=by
  rcases h with h | h
  · exact .inl h
  · exact .inr (.inr h)
theorem add_la {S : Store} {V W : PV} {xs ys : List PV} (h : LA S V xs) (k : LA S W ys) (hl : xs.length + ys.length <= 1000000) : oAdd S V W = .ok (.lst (xs ++ ys)) S:=by
  have hl : xs.length + ys.length <= lim:=hl
  rcases h with rfl | ⟨i,rfl,e⟩ <;> rcases k with rfl | ⟨j,rfl,f⟩
  · exact if_pos hl
  · show (match lstOf S (.lst xs),lstOf S (.ref j) with | some xs,some ys=>if xs.length + ys.length <= lim then Res.ok (PV.lst (xs ++ ys)) S else .stuck | _,_=>.stuck) = _
    rw [lstOf_ref f]; exact if_pos hl
  · show (match lstOf S (.ref i),lstOf S (.lst ys) with | some xs,some ys=>if xs.length + ys.length <= lim then Res.ok (PV.lst (xs ++ ys)) S else .stuck | _,_=>.stuck) = _
    rw [lstOf_ref e]; exact if_pos hl
  · show (match lstOf S (.ref i),lstOf S (.ref j) with | some xs,some ys=>if xs.length + ys.length <= lim then Res.ok (PV.lst (xs ++ ys)) S else .stuck | _,_=>.stuck) = _
    rw [lstOf_ref e,lstOf_ref f]; exact if_pos hl
theorem ext_lst {S : Store} {L : Nat} {xs ys : List PV} (h : S[L]? = some (.lst xs)) (hl : xs.length + ys.length <= 1000000) : mtExtend S (.ref L) [.lst ys] = .ok .non (S.set L (.lst (xs ++ ys))):=by
  show (match lstOf S (.lst ys) with | some ys=>chg S (.ref L) fun xs=>if xs.length + ys.length <= lim then some (PV.non,xs ++ ys) else none | none=>.stuck) = _
  rw [show lstOf S (.lst ys) = some ys from rfl]
  simp only [chg,h]
  rw [if_pos (show xs.length + ys.length <= lim from hl)]
structure CutOk (n r : Nat) (c : List (Nat × Nat)) : Prop where
  pl : ∀ z ∈ c,z.1 < n /\ z.2 <= r
  inc : c.Pairwise LxP
  cls : ∀ z ∈ c,z.2 < r -> (z.1,z.2 + 1) ∈ c
  len : c.length <= 100
theorem CutOk.rise {n r : Nat} {c : List (Nat × Nat)} (h : CutOk n r c) : riseP c = true:=rise_of h.inc
theorem CutOk.clsd {n r : Nat} {c : List (Nat × Nat)} (h : CutOk n r c) : clsB r c = true:=by
  unfold clsB
  rw [List.all_eq_true]
  intro z hz
  obtain ⟨h1,h2⟩:=List.mem_filter.mp hz
  rw [decide_eq_true_eq] at h2 ⊢
  exact h.cls z h1 h2
def colF (r k f : Nat) : List (Nat × Nat):=(List.range (r + 1 - f)).map fun t=>(k,f + t)
theorem col_mem {r k f : Nat} {z : Nat × Nat} : z ∈ colF r k f <-> z.1 = k /\ f <= z.2 /\ z.2 <= r:=by
  unfold colF
  rw [List.mem_map]
  constructor
  · rintro ⟨t,ht,rfl⟩
    have:=List.mem_range.mp ht
    exact ⟨rfl,by show f <= f + t; omega,by show f + t <= r; omega⟩
  · rintro ⟨h1,h2,h3⟩
    exact ⟨z.2 - f,List.mem_range.mpr (by omega),Prod.ext h1.symm (by show f + (z.2 - f) = z.2; omega)⟩
theorem CutOk.add {n r k f : Nat} {c : List (Nat × Nat)} (h : CutOk k r c) (hk : k < n) (hr : r <= 4) (hl : c.length <= 5 * k) (h8 : k <= 8) : CutOk (k + 1) r (c ++ colF r k f) /\ (c ++ colF r k f).length <= 5 * (k + 1):=by
  have cl : (colF r k f).length <= 5:=by unfold colF; rw [List.length_map,List.length_range]; omega
  refine ⟨⟨fun z hz=>?_,?_,fun z hz hz2=>?_,by rw [List.length_append]; omega⟩,by rw [List.length_append]; omega⟩
  · rcases List.mem_append.mp hz with hz | hz
    · have:=h.pl z hz; omega
    · have:=col_mem.mp hz; omega
  · rw [List.pairwise_append]
    refine ⟨h.inc,?_,fun a ha b hb=>.inl ?_⟩
    · unfold colF
      rw [List.pairwise_map]
      exact List.pairwise_lt_range.imp fun hab=>.inr ⟨rfl,by show _ + _ < _ + _; omega⟩
    · have:=h.pl a ha; have:=col_mem.mp hb; omega
  · rcases List.mem_append.mp hz with hz | hz
    · exact List.mem_append_left _ (h.cls z hz hz2)
    · have:=col_mem.mp hz
      exact List.mem_append_right _ (col_mem.mpr ⟨this.1,by show f <= z.2 + 1; omega,by show z.2 + 1 <= r; omega⟩)
theorem CutOk.nil (n r : Nat) : CutOk n r []:=⟨fun z hz=>absurd hz List.not_mem_nil,List.Pairwise.nil,fun z hz=>absurd hz List.not_mem_nil,by simp⟩
section
variable {xs : List Int} {rs : List (List Tr)} {ks : List Tr}
theorem col_ok {me : ME} (hme : me = mTup (mCons (mVar 1) (mCons (mVar 0) mNil))) (r k f : Nat) (S : Store) : compG (gaName 0) mTrue me [] [none,some (.int k)] (rangeI f (r + 1 - f)) S = .ok ((colF r k f).map rdV) S:=by
  unfold rangeI colF
  rw [List.map_map,hme]
  refine compG_on _ _ (by simp) fun t _=>⟨_,rfl,?_⟩
  refine (tup_ok (cons_ok rfl (cons_ok rfl rfl)) (by simp)).trans ?_
  show Res.ok (PV.tup [.int k,.int ((f : Int) + (t : Int))]) S = Res.ok (PV.tup [.int k,.int ((f + t : Nat) : Int)]) S
  rw [show ((f + t : Nat) : Int) = (f : Int) + (t : Int) by omega]
theorem acut_ok {S : Store} {L : Nat} (T : Tp S L) (q : Qok xs rs ks) : ∃ (c : List (Nat × Nat)) (S' : Store),CutOk xs.length rs.length c /\ Tp S' L /\ S'.length = S.length + 1 /\ S'[S.length]? = some (.lst (c.map rdV)) /\ (∀ t,t < S.length -> t ≠ L -> S'[t]? = S[t]?) /\ F__law_acut [.ref L,qV xs rs ks] S = .ok (.ref S.length) S':=by
  have x4:=q.x4
  have r4:=q.r4
  have hL:=T.lt
  obtain ⟨Γ',S',f,c,c4,c5,hc,hcl,T',l',a',o',rfl⟩:=forG_inv (g:=fun k : Nat=>PV.int (k : Int)) (xs:=List.range xs.length) (ga:=gaName 4) (body:=b__law_acut_1) (w:=[]) (Γ:=[some (.ref L),some (qV xs rs ks),some (.int rs.length),some (.ref S.length),none,none]) (st:=S ++ [.lst []])
    (fun k Γ st=>∃ (c : List (Nat × Nat)) (c4 c5 : Option PV),CutOk k rs.length c /\ c.length <= 5 * k /\ Tp st L /\ st.length = S.length + 1 /\ st[S.length]? = some (.lst (c.map rdV)) /\ (∀ t,t < S.length -> t ≠ L -> st[t]? = S[t]?) /\ Γ = [some (.ref L),some (qV xs rs ks),some (.int rs.length),some (.ref S.length),c4,c5]) (fun _ _ _ _=>by simp)
    (fun k x Γ st hx ⟨c,c4,c5,hc,hcl,T,l,a,o,hΓ⟩=>by
      subst hΓ
      have hk : k < xs.length:=by simpa using (List.getElem?_eq_some_iff.mp hx).1
      rw [List.getElem?_range hk] at hx
      cases hx
      obtain ⟨d,st1,hd,T1,M1,e1⟩:=adigit_ok T (rs.length + 2) (by omega) (by omega)
      have e1 : F__law_adigit [.ref L,.int ((rs.length : Int) + 2)] st = .ok (.int d) st1:=e1
      have a1 : st1[S.length]? = some (.lst (c.map rdV)):=by rw [M1.keep _ (by omega)]; exact a
      obtain ⟨h1,h2⟩:=hc.add (f:=d) hk r4 hcl (by omega)
      have ee:=ext_lst a1 (ys:=(colF rs.length k d).map rdV) (by rw [List.length_map,List.length_map]; rw [List.length_append] at h2; omega)
      have hrg : mRange2 (mCons (mVar 5) (mCons (mOp oAdd (mVar 2) (mC (.int 1))) mNil)) [some (.ref L),some (qV xs rs ks),some (.int rs.length),some (.ref S.length),some (.int k),some (.int d)] st1 = .ok (rangeI d (rs.length + 1 - d),[]) st1:=by
        rw [mRange2_eq,cons_ok (m:=mVar 5) (p:=.int d) rfl (cons_ok (op_ok rfl rfl (addi st1 _ _)) (show mNil _ _ = .ok [] _ from rfl)),bind_ok]
        show (if -(lim : Int) <= (d : Int) /\ (d : Int) <= (lim : Int) /\ -(lim : Int) <= (rs.length : Int) + 1 /\ (rs.length : Int) + 1 <= lim then _ else _) = _
        rw [if_pos (by rw [lim_eq]; omega),show ((rs.length : Int) + 1 - (d : Int)).toNat = rs.length + 1 - d by omega]
      refine ⟨_,rfl,_,_,seq_nx (Γ1:=[some (.ref L),some (qV xs rs ks),some (.int rs.length),some (.ref S.length),some (.int k),some (.int d)]) (set_ok (call_ok (n:=2) (cons_ok rfl (cons_ok (op_ok rfl rfl (addi st _ _)) rfl)) rfl e1)) (app_ok (p:=.ref S.length) rfl (lstOf_ref a1) (cons_ok (val_ok (comp_ok hrg (col_ok rfl _ _ _ st1))) rfl) ee),c ++ colF rs.length k d,_,_,h1,h2,?_,?_,?_,fun t ht htL=>?_,rfl⟩
      · exact T1.of (List.getElem?_set_ne (by omega))
      · rw [List.length_set,M1.len]; exact l
      · rw [List.getElem?_set_self (List.getElem?_eq_some_iff.mp a1).1,List.map_append]
      · rw [List.getElem?_set_ne (by omega),M1.keep t htL]; exact o t ht htL)
    ⟨[],none,none,CutOk.nil _ _,by simp,T.of (List.getElem?_append_left hL),by simp,by simp,fun t ht _=>List.getElem?_append_left ht,rfl⟩
  rw [<- rangeI0,List.length_range] at *
  refine ⟨c,S',hc,T',l',a',o',?_⟩
  exact callK_rt (m:=m__law_acut) (nl:=6) (seq_nx (Γ1:=[some (.ref L),some (qV xs rs ks),some (.int rs.length),none,none,none]) (set_ok (bi_ok (cons_ok (op_ok rfl rfl rfl) rfl) (q_r S))) (seq_nx (Γ1:=[some (.ref L),some (qV xs rs ks),some (.int rs.length),some (.ref S.length),none,none]) (S1:=S ++ [.lst []]) (set_ok (trk_ok (ps:=[]) rfl)) (seq_nx (for_ok (rg_ok (by omega) (bi_ok (cons_ok (op_ok rfl rfl rfl) rfl) (q_n _))) f) (ret_ok rfl))))
theorem lx_tr {a b c : Nat × Nat} (h1 : LxP a b) (h2 : LxP b c) : LxP a c:=by unfold LxP at *; omega
theorem lx_irr {a : Nat × Nat} (h : LxP a a) : False:=by unfold LxP at h; omega
theorem rise_pw : ∀ {l : List (Nat × Nat)},riseP l = true -> l.Pairwise LxP
  | [],_=>List.Pairwise.nil
  | [x],_=>List.pairwise_singleton _ _
  | x :: y :: t,h=>by
    rw [rise_cons,Bool.and_eq_true] at h
    have ih:=rise_pw h.2
    have hxy:=(lx_iff x y).mp h.1
    refine List.pairwise_cons.mpr ⟨fun w hw=>?_,ih⟩
    rcases List.mem_cons.mp hw with rfl | hw
    · exact hxy
    · exact lx_tr hxy ((List.pairwise_cons.mp ih).1 w hw)
def NoC (xs : List Int) (rs : List (List Tr)) (ks : List Tr) (V : PV) : Prop:=∀ S : Store,F_is_cut [qV xs rs ks,V] S = .ok (.bl false) S
theorem noc_pl {c : List (Int × Int)} (hl : c.length <= 1000) (h : c.all (plc xs.length rs.length) = false) : NoC xs rs ks (.lst (c.map piV)):=cut_bad hl h
theorem noc_nat {c : List (Nat × Nat)} (hl : c.length <= 1000) (h : ∀ z ∈ c,z.1 < xs.length /\ z.2 <= rs.length) (hb : riseP c = true -> clsB rs.length c = true -> False) : NoC xs rs ks (.lst (c.map rdV)):=fun S=>by
  rw [cut_ok hl h S]
  cases h1 : riseP c with
  | false=>rfl
  | true=>
    cases h2 : clsB rs.length c with
    | false=>rfl
    | true=>exact (hb h1 h2).elim
theorem nopl {n r : Nat} {z : Int × Int} (h : ¬ (0 <= z.1 /\ z.1 < n /\ 0 <= z.2 /\ z.2 <= r)) : plc n r z = false:=by
  rw [Bool.eq_false_iff]
  intro e
  unfold plc at e
  simp only [Bool.and_eq_true,decide_eq_true_eq] at e
  omega
theorem noc_one {z : Int × Int} (h : ¬ (0 <= z.1 /\ z.1 < (xs.length : Int) /\ 0 <= z.2 /\ z.2 <= (rs.length : Int))) : NoC xs rs ks (.lst [piV z]):=noc_pl (c:=[z]) (by simp) (by rw [List.all_cons,nopl h]; rfl)
theorem noc_st {z : Nat × Nat} (h1 : z.1 < xs.length) (h2 : z.2 < rs.length) : NoC xs rs ks (.lst [rdV z]):=noc_nat (c:=[z]) (by simp) (fun y hy=>by rw [List.mem_singleton.mp hy]; omega) fun _ hc=>by
  unfold clsB at hc
  rw [List.all_eq_true] at hc
  have:=hc z (List.mem_filter.mpr ⟨List.mem_singleton.mpr rfl,decide_eq_true h2⟩)
  rw [decide_eq_true_eq,List.mem_singleton] at this
  have:=congrArg Prod.snd this
  simp at this
theorem noc_up {c : List (Nat × Nat)} (h : CutOk xs.length rs.length c) (hn : (c.filter fun z=>decide (z.2 < rs.length)) ≠ []) : NoC xs rs ks (.lst ((c.filter fun z=>decide (z.2 < rs.length)).map rdV)):=by
  obtain ⟨d,hd⟩ : ∃ d,(c.filter fun z=>decide (z.2 < rs.length)) = d:=⟨_,rfl⟩
  have md : ∀ z,z ∈ d <-> z ∈ c /\ z.2 < rs.length:=fun z=>by rw [<- hd,List.mem_filter,decide_eq_true_eq]
  rw [hd] at hn ⊢
  refine noc_nat (Nat.le_trans (by rw [<- hd]; exact List.length_filter_le _ _) (Nat.le_trans h.len (by decide))) (fun z hz=>h.pl z ((md z).mp hz).1) fun _ hc=>?_
  unfold clsB at hc
  rw [List.all_eq_true] at hc
  have up : ∀ z ∈ d,(z.1,z.2 + 1) ∈ d:=fun z hz=>of_decide_eq_true (hc z (List.mem_filter.mpr ⟨hz,decide_eq_true ((md z).mp hz).2⟩))
  obtain ⟨z,hz⟩:=List.exists_mem_of_ne_nil d hn
  have all : ∀ k,(z.1,z.2 + k) ∈ d:=fun k=>by
    induction k with
    | zero=>exact hz
    | succ k ih=>exact up _ ih
  have:=((md _).mp (all rs.length)).2
  have : z.2 + rs.length < rs.length:=this
  omega
end
section
variable {xs : List Int} {rs : List (List Tr)} {ks : List Tr} {S st : Store} {c : List (Nat × Nat)} {V : PV}
theorem LA.keep {S S' : Store} {V : PV} {ys : List PV} (h : LA S V ys) (k : ∀ t,t < S.length -> S'[t]? = S[t]?) : LA S' V ys:=by
  rcases h with h | ⟨i,h,e⟩
  · exact .inl h
  · exact .inr ⟨i,h,by rw [k i (List.getElem?_eq_some_iff.mp e).1]; exact e⟩
theorem LA.lis {ys : List PV} (h : LA st V ys) : listOf st V = some ys:=by
  rcases h with rfl | ⟨i,rfl,e⟩
  · rfl
  · exact listOf_ref e
theorem LA.der {ys : List PV} (h : LA st V ys) : der st V = .lst ys:=by
  rcases h with rfl | ⟨i,rfl,e⟩
  · rfl
  · simp only [Sm.der,e]
theorem LA.sl {ys : List PV} (h : LA st V ys) (lo hi : Option Int) : oSl st V lo hi = .ok (.lst (cut ys lo hi)) st:=by
  rcases h with rfl | ⟨i,rfl,e⟩
  · rfl
  · simp only [oSl,listOf_ref e]
theorem LA.list {ys : List PV} (h : LA st V ys) : cList st [V] = .ok (.lst ys) st:=by
  rcases h with rfl | ⟨i,rfl,e⟩
  · rfl
  · rw [cList_r,e]
theorem good_rd (c : List (Nat × Nat)) : good dep (.lst (c.map rdV)) = true:=by simp [good,dep,rdV]
theorem ne_nil (h : LA st V (c.map rdV)) : oNe st V (.lst []) = .ok (.bl (decide (c ≠ []))) st:=by
  unfold oNe
  rw [h.der]
  rw [if_pos ⟨good_rd c,rfl⟩]
  cases c <;> rfl
theorem ne_same (h : LA st V (c.map rdV)) : oNe st (.lst (c.map rdV)) V = .ok (.bl false) st:=by
  have hp:=peq_self (good_rd c)
  unfold oNe
  rw [h.der,show der st (.lst (c.map rdV)) = .lst (c.map rdV) from rfl,if_pos ⟨good_rd c,good_rd c⟩,hp]
  rfl
theorem cut_one (c : List PV) : cut c none (some 1) = c.take 1:=cut_front c 1
theorem cut_off (c : List PV) : cut c (some 1) none = c.drop 1:=cut_back c 1
theorem noc_ord (hc : CutOk xs.length rs.length c) {d : List (Nat × Nat)} (hd : ∀ z ∈ d,z ∈ c) (hl : d.length <= 1000) (h : d.Pairwise LxP -> False) : NoC xs rs ks (.lst (d.map rdV)):=noc_nat hl (fun z hz=>hc.pl z (hd z hz)) fun h1 _=>h (rise_pw h1)
def St (xs : List Int) (rs : List (List Tr)) (ks : List Tr) (S : Store) (V : PV) (c : List (Nat × Nat)) (k : Nat) (Γ : Gam) (st : Store) : Prop:=∃ (ws : List PV) (R : Nat),Γ = [some (qV xs rs ks),some V,some (.int xs.length),some (.int rs.length),some (.ref R)] /\ (∀ y ∈ ws,NoC xs rs ks y) /\ ws.length <= k /\ st[R]? = some (.lst ws) /\ S.length <= R /\ LA st V (c.map rdV) /\ ∀ t,t < S.length -> st[t]? = S[t]?
theorem stage {Γ : Gam} {k : Nat} {mc : MT} {ml : ME} {ys : List PV} (p : Prop) [Decidable p] (h : St xs rs ks S V c k Γ st) (hk : k + ys.length <= 100) (hc : mc Γ st = .ok (decide p) st) (hy : p -> ∀ y ∈ ys,NoC xs rs ks y) (e : p -> ml Γ st = .ok (.lst ys) st) : ∃ Γ' st',mIfS mc (mSet 4 (mTrk (mAddN (mVar 4) ml))) mNext Γ st = .nx Γ' st' /\ St xs rs ks S V c (k + ys.length) Γ' st':=by
  obtain ⟨ws,R,rfl,h1,h2,h3,h4,h5,h6⟩:=h
  by_cases hp : p
  · rw [decide_eq_true hp] at hc
    have ea : mAddN (mVar 4) ml [some (qV xs rs ks),some V,some (.int xs.length),some (.int rs.length),some (.ref R)] st = .ok (ws ++ ys) st:=by
      rw [mAddN_eq]
      show (ml _ st).bind _ = _
      rw [e hp,bind_ok]
      show (match lstOf st (.ref R),lstOf st (.lst ys) with | some xs,some ys=>if xs.length + ys.length <= lim then Res.ok (xs ++ ys) st else .stuck | _,_=>.stuck) = _
      rw [lstOf_ref h3]
      exact if_pos (show ws.length + ys.length <= lim by rw [lim_eq]; omega)
    have hR:=(List.getElem?_eq_some_iff.mp h3).1
    refine ⟨_,_,if_t hc (set_ok (trk_ok ea)),ws ++ ys,st.length,rfl,fun y hyy=>?_,by rw [List.length_append]; omega,by simp,by omega,h5.keep fun t ht=>List.getElem?_append_left ht,fun t ht=>by rw [List.getElem?_append_left (by omega)]; exact h6 t ht⟩
    rcases List.mem_append.mp hyy with a | a
    · exact h1 y a
    · exact hy hp y a
  · rw [decide_eq_false hp] at hc
    exact ⟨_,_,if_f hc rfl,ws,R,rfl,h1,by omega,h3,h4,h5,h6⟩
theorem add_at {ys zs : List PV} {m1 m2 : ME} {Γ : Gam} {W : PV} (h1 : m1 Γ st = .ok V st) (h : LA st V ys) (h2 : m2 Γ st = .ok W st) (k : LA st W zs) (hl : ys.length + zs.length <= 1000000) : mOp oAdd m1 m2 Γ st = .ok (.lst (ys ++ zs)) st:=op_ok h1 h2 (add_la h k hl)
theorem sl_at {ys : List PV} {m : ME} {Γ : Gam} {ml mh : Gam -> Store -> Res (Option Int)} {lo hi : Option Int} (h1 : m Γ st = .ok V st) (h : LA st V ys) (e1 : ml Γ st = .ok lo st) (e2 : mh Γ st = .ok hi st) : mSl m ml mh Γ st = .ok (.lst (cut ys lo hi)) st:=by rw [mSl_eq,h1,bind_ok,e1,bind_ok,e2,bind_ok]; exact h.sl lo hi
theorem one_at {m1 m2 : ME} {Γ : Gam} {a b : Int} (h1 : m1 Γ st = .ok (.int a) st) (h2 : m2 Γ st = .ok (.int b) st) : mLst (mCons (mTup (mCons m1 (mCons m2 mNil))) mNil) Γ st = .ok (.lst [piV (a,b)]) st:=bi_lst (cons_ok (tup_ok (cons_ok h1 (cons_ok h2 rfl)) (by simp)) rfl) (by simp)
theorem ano_ok (q : Qok xs rs ks) (hc : CutOk xs.length rs.length c) (hV : LA S V (c.map rdV)) : ∃ (ws : List PV) (R : Nat) (S' : Store),(∀ y ∈ ws,NoC xs rs ks y) /\ ws.length <= 100 /\ S'[R]? = some (.lst ws) /\ (∀ t,t < S.length -> S'[t]? = S[t]?) /\ F__law_ano_cuts [qV xs rs ks,V] S = .ok (.ref R) S':=by
  have cl:=hc.len
  have x1:=q.x1
  have ml : (c.map rdV).length <= 100:=by rw [List.length_map]; exact cl
  obtain ⟨ws0,hws0⟩ : ∃ ws0,[PV.lst [piV ((xs.length : Int),(rs.length : Int))],.lst [piV (-1,(rs.length : Int))],.lst [piV (0,(rs.length : Int) + 1)],.lst [piV (0,-1)],.lst (c.map rdV ++ [piV ((xs.length : Int),0)])] = ws0:=⟨_,rfl⟩
  have n0 : ∀ y ∈ ws0,NoC xs rs ks y:=by
    rw [<- hws0]
    intro y hy
    simp only [List.mem_cons,List.not_mem_nil,or_false] at hy
    rcases hy with rfl | rfl | rfl | rfl | rfl
    · exact noc_one (by simp)
    · exact noc_one (by simp)
    · exact noc_one (by simp; omega)
    · exact noc_one (by simp)
    · have : c.map rdV ++ [piV ((xs.length : Int),0)] = (c.map nI ++ [((xs.length : Int),0)]).map piV:=by rw [List.map_append,rd_pi]; rfl
      rw [this]
      refine noc_pl (by rw [List.length_append,List.length_map]; simp; omega) ?_
      rw [List.all_append,List.all_cons,nopl (by simp)]
      simp
  have s0 : St xs rs ks S V c 5 [some (qV xs rs ks),some V,some (.int xs.length),some (.int rs.length),some (.ref S.length)] (S ++ [.lst ws0]):=⟨ws0,S.length,rfl,n0,by rw [<- hws0]; simp,by simp,Nat.le_refl _,hV.keep fun t ht=>List.getElem?_append_left ht,fun t ht=>List.getElem?_append_left ht⟩
  have e0 : mSet 4 (mTrk (mLstN (mCons (mLst (mCons (mTup (mCons (mVar 2) (mCons (mVar 3) mNil))) mNil)) (mCons (mLst (mCons (mTup (mCons (mNeg (mC (.int 1))) (mCons (mVar 3) mNil))) mNil)) (mCons (mLst (mCons (mTup (mCons (mC (.int 0)) (mCons (mOp oAdd (mVar 3) (mC (.int 1))) mNil))) mNil)) (mCons (mLst (mCons (mTup (mCons (mC (.int 0)) (mCons (mNeg (mC (.int 1))) mNil))) mNil)) (mCons (mOp oAdd (mVar 1) (mLst (mCons (mTup (mCons (mVar 2) (mCons (mC (.int 0)) mNil))) mNil))) mNil))))))) [some (qV xs rs ks),some V,some (.int xs.length),some (.int rs.length),none] S = .nx [some (qV xs rs ks),some V,some (.int xs.length),some (.int rs.length),some (.ref S.length)] (S ++ [.lst ws0]):=by
    refine set_ok (trk_ok ?_)
    unfold mLstN
    rw [cons_ok (ps:=ws0.tail) (p:=PV.lst [piV ((xs.length : Int),(rs.length : Int))]) (S1:=S) (S2:=S) (one_at rfl rfl) (by
      rw [<- hws0]
      exact cons_ok (one_at rfl rfl) (cons_ok (one_at rfl (op_ok rfl rfl (addi S _ _))) (cons_ok (one_at rfl rfl) (cons_ok (add_at rfl hV (one_at rfl rfl) (.inl rfl) (by simp only [List.length_cons,List.length_nil]; omega)) rfl)))),bind_ok]
    rw [<- hws0]
    exact if_pos (by rw [lim_eq]; simp)
  obtain ⟨Γ1,S1,e1,s1⟩:=stage (ys:=[.lst [piV (0,0)],.lst [piV ((xs.length : Int) - 1,(rs.length : Int) - 1)]]) (mc:=toB (mOp (oI fun a b=>.bl (decide (b < a))) (mVar 3) (mC (.int 0)))) (ml:=mLst (mCons (mLst (mCons (mTup (mCons (mC (.int 0)) (mCons (mC (.int 0)) mNil))) mNil)) (mCons (mLst (mCons (mTup (mCons (mOp (oI fun a b=>.int (a - b)) (mVar 2) (mC (.int 1))) (mCons (mOp (oI fun a b=>.int (a - b)) (mVar 3) (mC (.int 1))) mNil))) mNil)) mNil))) (0 < rs.length) s0 (by simp)
    (tb_ok (op_ok rfl rfl (by show Res.ok (PV.bl (decide ((0 : Int) < (rs.length : Int)))) _ = _; rw [show decide ((0 : Int) < (rs.length : Int)) = decide (0 < rs.length) from decide_eq_decide.mpr (by omega)])))
    (fun hp y hy=>by
      simp only [List.mem_cons,List.not_mem_nil,or_false] at hy
      rcases hy with rfl | rfl
      · exact noc_st (z:=(0,0)) (by show 0 < xs.length; omega) hp
      · have:=noc_st (xs:=xs) (rs:=rs) (ks:=ks) (z:=(xs.length - 1,rs.length - 1)) (by show xs.length - 1 < xs.length; omega) (by show rs.length - 1 < rs.length; omega)
        unfold rdV at this
        have a1 : ((xs.length - 1 : Nat) : Int) = (xs.length : Int) - 1:=by omega
        have a2 : ((rs.length - 1 : Nat) : Int) = (rs.length : Int) - 1:=by omega
        simp only [a1,a2] at this
        exact this)
    (fun _=>bi_lst (cons_ok (one_at rfl rfl) (cons_ok (one_at (op_ok rfl rfl rfl) (op_ok rfl rfl rfl)) rfl)) (by simp))
  obtain ⟨ws1,R1,rfl,-,-,-,-,v1,-⟩:=id s1
  obtain ⟨Γ2,S2,e2,s2⟩:=stage (ys:=[.lst (c.map rdV ++ (c.map rdV).take 1),.lst ((c.map rdV).take 1 ++ c.map rdV)]) (mc:=toB (mOp oNe (mVar 1) (mLst mNil))) (ml:=mLst (mCons (mOp oAdd (mVar 1) (mSl (mVar 1) mNoPart (mPart (mC (.int 1))))) (mCons (mOp oAdd (mSl (mVar 1) mNoPart (mPart (mC (.int 1)))) (mVar 1)) mNil))) (c ≠ []) s1 (by simp)
    (tb_ok (op_ok rfl (bi_lst rfl) (ne_nil v1)))
    (fun hp y hy=>by
      simp only [List.mem_cons,List.not_mem_nil,or_false] at hy
      obtain ⟨z,t,rfl⟩ : ∃ z t,c = z :: t:=by cases c with | nil=>exact (hp rfl).elim | cons z t=>exact ⟨z,t,rfl⟩
      rw [List.length_cons] at cl
      rcases hy with rfl | rfl
      · rw [show (z :: t).map rdV ++ ((z :: t).map rdV).take 1 = ((z :: t) ++ [z]).map rdV by simp]
        refine noc_ord hc (fun w hw=>by simp at hw ⊢; rcases hw with h | h | h <;> simp [h]) (by simp; omega) fun h=>?_
        exact lx_irr ((List.pairwise_append.mp h).2.2 z List.mem_cons_self z (List.mem_singleton.mpr rfl))
      · rw [show ((z :: t).map rdV).take 1 ++ (z :: t).map rdV = (z :: z :: t).map rdV by simp]
        refine noc_ord hc (fun w hw=>by simp at hw ⊢; exact hw) (by simp; omega) fun h=>?_
        exact lx_irr ((List.pairwise_cons.mp h).1 z List.mem_cons_self))
    (fun _=>by
      have es : mSl (mVar 1) mNoPart (mPart (mC (.int 1))) [some (qV xs rs ks),some V,some (.int xs.length),some (.int rs.length),some (.ref R1)] S1 = .ok (.lst ((c.map rdV).take 1)) S1:=by rw [<- cut_one]; exact sl_at rfl v1 rfl rfl
      have tl : ((c.map rdV).take 1).length <= 1:=by rw [List.length_take]; omega
      exact bi_lst (cons_ok (add_at rfl v1 es (.inl rfl) (by omega)) (cons_ok (add_at es (.inl rfl) rfl v1 (by omega)) rfl)) (by simp))
  obtain ⟨ws2,R2,rfl,-,-,-,-,v2,-⟩:=id s2
  obtain ⟨Γ3,S3,e3,s3⟩:=stage (ys:=[.lst (c.map rdV).reverse,.lst ((c.map rdV).drop 1 ++ (c.map rdV).take 1)]) (mc:=toB (mOp (oI fun a b=>.bl (decide (b < a))) (mCall cLen (mCons (mVar 1) mNil)) (mC (.int 1)))) (ml:=mLst (mCons (mVal (mRevN (mVar 1) (mNeg (mC (.int 1))))) (mCons (mOp oAdd (mSl (mVar 1) (mPart (mC (.int 1))) mNoPart) (mSl (mVar 1) mNoPart (mPart (mC (.int 1))))) mNil))) (1 < c.length) s2 (by simp)
    (tb_ok (op_ok (bi_ok (cons_ok rfl rfl) v2.at_.len) rfl (by show Res.ok (PV.bl (decide ((1 : Int) < ((c.map rdV).length : Int)))) _ = _; rw [show decide ((1 : Int) < ((c.map rdV).length : Int)) = decide (1 < c.length) from decide_eq_decide.mpr (by rw [List.length_map]; omega)])))
    (fun hp y hy=>by
      simp only [List.mem_cons,List.not_mem_nil,or_false] at hy
      obtain ⟨z,w,t,rfl⟩ : ∃ z w t,c = z :: w :: t:=by
        match c,hp with
        | z :: w :: t,_=>exact ⟨z,w,t,rfl⟩
      rw [List.length_cons,List.length_cons] at cl
      have zw : LxP z w:=(List.pairwise_cons.mp hc.inc).1 w List.mem_cons_self
      rcases hy with rfl | rfl
      · rw [<- List.map_reverse]
        refine noc_ord hc (fun y hy=>List.mem_reverse.mp hy) (by rw [List.length_reverse,List.length_cons,List.length_cons]; omega) fun h=>?_
        rw [List.pairwise_reverse] at h
        exact lx_irr (lx_tr zw ((List.pairwise_cons.mp h).1 w List.mem_cons_self))
      · rw [show ((z :: w :: t).map rdV).drop 1 ++ ((z :: w :: t).map rdV).take 1 = (w :: (t ++ [z])).map rdV by simp]
        refine noc_ord hc (fun y hy=>by simp at hy ⊢; rcases hy with h | h | h <;> simp [h]) (by simp; omega) fun h=>?_
        exact lx_irr (lx_tr zw ((List.pairwise_cons.mp h).1 z (by simp))))
    (fun _=>by
      have es : mSl (mVar 1) mNoPart (mPart (mC (.int 1))) [some (qV xs rs ks),some V,some (.int xs.length),some (.int rs.length),some (.ref R2)] S2 = .ok (.lst ((c.map rdV).take 1)) S2:=by rw [<- cut_one]; exact sl_at rfl v2 rfl rfl
      have ed : mSl (mVar 1) (mPart (mC (.int 1))) mNoPart [some (qV xs rs ks),some V,some (.int xs.length),some (.int rs.length),some (.ref R2)] S2 = .ok (.lst ((c.map rdV).drop 1)) S2:=by rw [<- cut_off]; exact sl_at rfl v2 rfl rfl
      have er : mRevN (mVar 1) (mNeg (mC (.int 1))) [some (qV xs rs ks),some V,some (.int xs.length),some (.int rs.length),some (.ref R2)] S2 = .ok (c.map rdV).reverse S2:=by
        rw [mRevN_eq]
        show (match PV.int (-1),listOf S2 V with | .int i,some xs=>if i = -1 then Res.ok xs.reverse S2 else .stuck | _,_=>.stuck) = _
        rw [v2.lis]; rfl
      have tl : ((c.map rdV).take 1).length <= 1:=by rw [List.length_take]; omega
      have dl : ((c.map rdV).drop 1).length <= 100:=by rw [List.length_drop]; omega
      exact bi_lst (cons_ok (val_ok er) (cons_ok (add_at ed (.inl rfl) es (.inl rfl) (by omega)) rfl)) (by simp))
  obtain ⟨ws,R,rfl,h1,h2,h3,h4,v3,h6⟩:=s3
  have h2 : ws.length <= 11:=h2
  obtain ⟨d,hd⟩ : ∃ d,(c.filter fun z=>decide (z.2 < rs.length)) = d:=⟨_,rfl⟩
  have hcm : ∀ w : Wt,wOk w S3 -> ∀ tt : MT,tt = toB (mOp oLt (mOp oIx (mVar 0) (mC (.int 1))) (mVar 1)) -> compG (gaName 0) tt (mVar 0) w [none,some (.int rs.length)] (c.map rdV) S3 = .ok (d.map rdV) S3:=fun w hw tt htt=>by
    rw [<- hd,htt]
    refine compG_onF _ _ _ hw fun z _=>⟨_,rfl,?_,fun _=>rfl⟩
    by_cases a : z.2 < rs.length
    · rw [decide_eq_true a]; exact tb_ok (op_ok (op_ok rfl rfl rfl) rfl (lti_t S3 (by omega)))
    · rw [decide_eq_false a]; exact tb_ok (op_ok (op_ok rfl rfl rfl) rfl (lti_f S3 (by omega)))
  obtain ⟨w,hsrc,hw⟩ : ∃ w,srcOf S3 V = some (c.map rdV,w) /\ wOk w S3:=by
    rcases v3 with rfl | ⟨i,rfl,e⟩
    · exact ⟨[],rfl,wOk_nil _⟩
    · exact ⟨_,srcOf_ref e,fun x hx=>by rw [List.mem_singleton.mp hx]; exact e⟩
  have ev : ∀ tt : MT,tt = toB (mOp oLt (mOp oIx (mVar 0) (mC (.int 1))) (mVar 1)) -> mVal (mCompN [none,some 3] (gaName 0) (mSeq (mVar 1)) tt (mVar 0)) [some (qV xs rs ks),some V,some (.int xs.length),some (.int rs.length),some (.ref R)] S3 = .ok (.lst (d.map rdV)) S3:=fun tt htt=>val_ok (comp_ok (sq_ok rfl hsrc (by omega)) (hcm w hw tt htt))
  have en : oNe S3 (.lst (d.map rdV)) (.lst []) = .ok (.bl (decide (d ≠ []))) S3:=ne_nil (.inl rfl)
  have tail : ∃ S4 ws4,(∀ y ∈ ws4,NoC xs rs ks y) /\ ws4.length <= 100 /\ S4[R]? = some (.lst ws4) /\ (∀ t,t < S.length -> S4[t]? = S[t]?) /\ mIfS (toB (mOp oNe (mVal (mCompN [none,some 3] (gaName 0) (mSeq (mVar 1)) t__law_ano_cuts_1 e__law_ano_cuts_1)) (mLst mNil))) (mExpr (mBM mtAppend (mVar 4) (mCons (mVal (mCompN [none,some 3] (gaName 0) (mSeq (mVar 1)) t__law_ano_cuts_2 e__law_ano_cuts_2)) mNil))) mNext [some (qV xs rs ks),some V,some (.int xs.length),some (.int rs.length),some (.ref R)] S3 = .nx [some (qV xs rs ks),some V,some (.int xs.length),some (.int rs.length),some (.ref R)] S4:=by
    by_cases hp : d = []
    · rw [decide_eq_false (fun h=>h hp)] at en
      exact ⟨S3,ws,h1,by omega,h3,h6,if_f (tb_ok (op_ok (ev _ rfl) (bi_lst rfl) en)) rfl⟩
    · rw [decide_eq_true hp] at en
      refine ⟨_,ws ++ [.lst (d.map rdV)],fun y hy=>?_,by rw [List.length_append]; simp; omega,List.getElem?_set_self (List.getElem?_eq_some_iff.mp h3).1,fun t ht=>by rw [List.getElem?_set_ne (by omega)]; exact h6 t ht,if_t (tb_ok (op_ok (ev _ rfl) (bi_lst rfl) en)) (app_ok (p:=.ref R) rfl (lstOf_ref h3) (cons_ok (ev _ rfl) rfl) (app_lst h3 (by omega) _))⟩
      rcases List.mem_append.mp hy with a | a
      · exact h1 y a
      · rw [List.mem_singleton.mp a,<- hd]
        exact noc_up hc (by rw [hd]; exact hp)
  obtain ⟨S4,ws4,k1,k2,k3,k4,e4⟩:=tail
  refine ⟨ws4,R,S4,k1,k2,k3,k4,?_⟩
  exact callK_rt (m:=m__law_ano_cuts) (nl:=5) (seq_nx (Γ1:=[some (qV xs rs ks),some V,some (.int xs.length),none,none]) (set_ok (bi_ok (cons_ok (op_ok rfl rfl rfl) rfl) (q_n S))) (seq_nx (Γ1:=[some (qV xs rs ks),some V,some (.int xs.length),some (.int rs.length),none]) (set_ok (bi_ok (cons_ok (op_ok rfl rfl rfl) rfl) (q_r S))) (seq_nx e0 (seq_nx e1 (seq_nx e2 (seq_nx e3 (seq_nx e4 (ret_ok rfl))))))))
end
section
variable {xs : List Int} {rs : List (List Tr)} {ks : List Tr} {S st : Store} {c : List (Nat × Nat)} {V W : PV}
abbrev np : Exc:=⟨"NoPlan",none⟩
theorem weight_x (q : Qok xs rs ks) (h : NoC xs rs ks W) (S : Store) : F_weight [qV xs rs ks,W] S = .exc np S:=
  callF_x (m:=m_weight) (nl:=5) (seq_nx (exp_ok (call_ok (n:=1) (cons_ok rfl rfl) rfl (needq_ok q S))) (seq_x (if_t (not_ok (tb_ok (call_ok (n:=2) (cons_ok rfl (cons_ok rfl rfl)) rfl (h S)))) rfl)))
theorem caught_of {a Q W : PV} (h : tb__law_acaught [some a,some Q,some W,some .non,none] S = .exc np S) : F__law_acaught [a,Q,W] S = .ok (.str "plan") S:=by
  unfold F__law_acaught
  show (match tb__law_acaught [some a,some Q,some W,some .non,none] S with
    | .nx Γ st1=>(match (Γ : Gam)[3]? with | some (some PV.non)=>Res.ok (PV.str "") st1 | _=>Res.stuck)
    | .exc x st1=>if x.cls = "NoPlan" then Res.ok (PV.str "plan") st1 else Res.stuck
    | _=>Res.stuck) = _
  rw [h]
  rfl
theorem caught0 {Q W : PV} (h : F_weight [Q,W] S = .exc np S) : F__law_acaught [.int 0,Q,W] S = .ok (.str "plan") S:=caught_of (if_t (tb_ok (op_ok rfl rfl (eqi_t S rfl))) (exp_x (callx (n:=2) (cons_ok rfl (cons_ok rfl rfl)) rfl h)))
theorem caught1 {Q W : PV} (h : F_is_plan [Q,W] S = .exc np S) : F__law_acaught [.int 1,Q,W] S = .ok (.str "plan") S:=caught_of (if_f (tb_ok (op_ok rfl rfl (eqi_f S (by decide)))) (if_t (tb_ok (op_ok rfl rfl (eqi_t S rfl))) (exp_x (callx (n:=2) (cons_ok rfl (cons_ok rfl rfl)) rfl h))))
theorem caught2 {Q W : PV} (h : F_best [Q] S = .exc np S) : F__law_acaught [.int 2,Q,W] S = .ok (.str "plan") S:=caught_of (if_f (tb_ok (op_ok rfl rfl (eqi_f S (by decide)))) (if_f (tb_ok (op_ok rfl rfl (eqi_f S (by decide)))) (if_t (tb_ok (op_ok rfl rfl (eqi_t S rfl))) (exp_x (callx (n:=1) (cons_ok rfl rfl) rfl h)))))
theorem caught3 {Q W : PV} (h : F_first_served [Q] S = .exc np S) : F__law_acaught [.int 3,Q,W] S = .ok (.str "plan") S:=caught_of (if_f (tb_ok (op_ok rfl rfl (eqi_f S (by decide)))) (if_f (tb_ok (op_ok rfl rfl (eqi_f S (by decide)))) (if_f (tb_ok (op_ok rfl rfl (eqi_f S (by decide)))) (exp_x (callx (n:=1) (cons_ok rfl rfl) rfl h)))))
def bqV (xs : List Int) (rs : List (List Tr)) (ks : List Tr) : PV:=.tup [.tup (xs.map .int),.tup (rs.map tsV),.tup (ks.map trV ++ [.tup [.int 0,.int 0,.int 0]])]
theorem q_bad (q : Qok xs rs ks) (S : Store) : F_is_question [bqV xs rs ks] S = .ok (.bl false) S:=by
  have h1:=st_yes q.x1 (by have:=q.x4; omega) q.xb S
  have h2:=pl_yes (by have:=q.r4; omega) q.rb S
  have hb : F_is_taking [.int xs.length,.int rs.length,.tup [.int 0,.int 0,.int 0]] S = .ok (.bl false) S:=tk_f (btw_int 0 0 _ S) (btw_int 0 0 _ S) (btw_int 0 1 1000000 S) (by simp)
  have h3:=tks_bad q.kb (by have:=q.k5; omega) hb
  refine q_take h1 ?_ ?_
  · rw [List.length_map]; exact h2
  · rw [List.length_map,List.length_map]; exact h3
theorem needq_x (q : Qok xs rs ks) (S : Store) : F_need_question [bqV xs rs ks] S = .exc np S:=
  callF_x (m:=m_need_question) (nl:=1) (if_t (not_ok (tb_ok (call_ok (n:=1) (cons_ok rfl rfl) rfl (q_bad q S)))) rfl)
theorem bad_w (q : Qok xs rs ks) (W : PV) (S : Store) : F_weight [bqV xs rs ks,W] S = .exc np S:=callF_x (m:=m_weight) (nl:=5) (seq_x (exp_x (callx (n:=1) (cons_ok rfl rfl) rfl (needq_x q S))))
theorem bad_p (q : Qok xs rs ks) (W : PV) (S : Store) : F_is_plan [bqV xs rs ks,W] S = .exc np S:=callF_x (m:=m_is_plan) (nl:=2) (seq_x (exp_x (callx (n:=1) (cons_ok rfl rfl) rfl (needq_x q S))))
theorem bad_b (q : Qok xs rs ks) (S : Store) : F_best [bqV xs rs ks] S = .exc np S:=callF_x (m:=m_best) (nl:=2) (seq_x (exp_x (callx (n:=1) (cons_ok rfl rfl) rfl (needq_x q S))))
theorem bad_f (q : Qok xs rs ks) (S : Store) : F_first_served [bqV xs rs ks] S = .exc np S:=callF_x (m:=m_first_served) (nl:=2) (seq_x (exp_x (callx (n:=1) (cons_ok rfl rfl) rfl (needq_x q S))))
theorem awhole_ok (k : Int) (S : Store) : F__law_awhole [.int k] S = .ok (.bl true) S:=by
  simp -implicitDefEqProofs [F__law_awhole,callF,m__law_awhole,isI,tyN]
abbrev lw46 (ns : List Int) (b1 b2 : Option PV) (Q : PV) (b4 b5 b6 b7 b8 b9 b10 b11 b12 : Option PV) : Gam:=[some (.fro (ns.map .int)),b1,b2,some Q,b4,b5,b6,b7,b8,b9,b10,b11,b12]
theorem nes_f (S : Store) (a : Str) : oNe S (.str a) (.str a) = .ok (.bl false) S:=by simp
theorem cut46 (q : Qok xs rs ks) (hc : CutOk xs.length rs.length c) (hV : LA S V (c.map rdV)) (ns : List Int) (b1 b2 b4 b5 b6 b8 b9 b10 b11 b12 : Option PV) : ∃ c8 c9 c10 S',(∀ t,t < S.length -> S'[t]? = S[t]?) /\ S.length <= S'.length /\ b_law_3 (lw46 ns b1 b2 (qV xs rs ks) b4 b5 b6 (some V) b8 b9 b10 b11 b12) S = .nx (lw46 ns b1 b2 (qV xs rs ks) b4 b5 b6 (some V) c8 c9 c10 b11 b12) S':=by
  have cl:=hc.len
  have e1:=weight_ok q (by omega) hc.pl hc.rise hc.clsd S
  have e2:=aweight_ok q (S:=S) hV.at_
  obtain ⟨w,hw⟩ : ∃ w,wA xs c + wB rs c + wC ks c = w:=⟨_,rfl⟩
  rw [hw] at e1 e2
  obtain ⟨ws,R,S',k1,k2,k3,k4,e3⟩:=ano_ok q hc hV
  have hl : S.length <= S'.length:=by
    rcases Nat.lt_or_ge S'.length S.length with h | h
    · exfalso
      have:=k4 S'.length h
      rw [List.getElem?_eq_none (Nat.le_refl _)] at this
      rw [List.getElem?_eq_getElem h] at this
      cases this
    · exact h
  obtain ⟨Γ',S1,f,c10,rfl,rfl⟩:=forG_inv (g:=fun x : PV=>x) (xs:=ws) (ga:=gaName 10) (body:=b_law_4) (w:=[(R,.lst ws)]) (Γ:=lw46 ns b1 b2 (qV xs rs ks) b4 b5 b6 (some V) (some (.lst (c.map rdV))) (some (.int w)) b10 b11 b12) (st:=S')
    (fun _ Γ st'=>∃ c10,Γ = lw46 ns b1 b2 (qV xs rs ks) b4 b5 b6 (some V) (some (.lst (c.map rdV))) (some (.int w)) c10 b11 b12 /\ st' = S') (fun _ _ st ⟨_,_,h⟩=>by subst h; intro x hx; rw [List.mem_singleton.mp hx]; exact k3)
    (fun i x Γ st hx ⟨c10,hΓ,hst⟩=>by
      subst hΓ; subst hst
      exact ⟨_,rfl,_,_,if_f (tb_ok (op_ok (call_ok (n:=3) (cons_ok rfl (cons_ok rfl (cons_ok rfl rfl))) rfl (caught0 (weight_x q (k1 x (List.mem_of_getElem? hx)) st))) rfl (nes_f st _))) rfl,some x,rfl,rfl⟩)
    ⟨_,rfl,rfl⟩
  rw [List.map_id'] at f
  refine ⟨some (.lst (c.map rdV)),some (.int w),c10,S1,k4,hl,?_⟩
  refine seq_nx (Γ1:=lw46 ns b1 b2 (qV xs rs ks) b4 b5 b6 (some V) (some (.lst (c.map rdV))) b9 b10 b11 b12) (set_ok (bi_ok (cons_ok rfl rfl) hV.list)) ?_
  refine seq_nx (Γ1:=lw46 ns b1 b2 (qV xs rs ks) b4 b5 b6 (some V) (some (.lst (c.map rdV))) (some (.int w)) b10 b11 b12) (set_ok (call_ok (n:=2) (cons_ok rfl (cons_ok rfl rfl)) rfl e1)) ?_
  refine seq_nx (if_f (or_f (not_ok (tb_ok (call_ok (n:=1) (cons_ok rfl rfl) rfl (awhole_ok w S)))) (or_f (tb_ok (op_ok rfl (call_ok (n:=2) (cons_ok rfl (cons_ok rfl rfl)) rfl e2) (nei_f S w))) (tb_ok (op_ok rfl rfl (ne_same hV))))) rfl) ?_
  exact for_ok (sq_ok (call_ok (n:=2) (cons_ok rfl (cons_ok rfl rfl)) rfl e3) (srcOf_ref k3) (by omega)) f
theorem full46 (q : Qok xs rs ks) (S : Store) {L : Nat} (T : Tp S L) (ns : List Int) (b1 b2 b4 b6 b7 b8 b9 b10 b11 b12 : Option PV) : ∃ (c : List (Nat × Nat)) (c6 : Option PV) (S' : Store),CutOk xs.length rs.length c /\ Tp S' L /\ S'.length = S.length + 1 /\ S'[S.length]? = some (.lst (c.map rdV)) /\ forG (gaName 6) b_law_2 [] (rangeI 0 xs.length) (lw46 ns b1 b2 (qV xs rs ks) b4 (some (.ref S.length)) b6 b7 b8 b9 b10 b11 b12) (S ++ [.lst []]) = .nx (lw46 ns b1 b2 (qV xs rs ks) b4 (some (.ref S.length)) c6 b7 b8 b9 b10 b11 b12) S':=by
  have x4:=q.x4
  have r4:=q.r4
  have hL:=T.lt
  obtain ⟨Γ',S',f,c,c6,hc,hcl,T',l',a',rfl⟩:=forG_inv (g:=fun k : Nat=>PV.int (k : Int)) (xs:=List.range xs.length) (ga:=gaName 6) (body:=b_law_2) (w:=[]) (Γ:=lw46 ns b1 b2 (qV xs rs ks) b4 (some (.ref S.length)) b6 b7 b8 b9 b10 b11 b12) (st:=S ++ [.lst []])
    (fun k Γ st=>∃ (c : List (Nat × Nat)) (c6 : Option PV),CutOk k rs.length c /\ c.length <= 5 * k /\ Tp st L /\ st.length = S.length + 1 /\ st[S.length]? = some (.lst (c.map rdV)) /\ Γ = lw46 ns b1 b2 (qV xs rs ks) b4 (some (.ref S.length)) c6 b7 b8 b9 b10 b11 b12) (fun _ _ _ _=>by simp)
    (fun k x Γ st hx ⟨c,c6,hc,hcl,T,l,a,hΓ⟩=>by
      subst hΓ
      have hk : k < xs.length:=by simpa using (List.getElem?_eq_some_iff.mp hx).1
      rw [List.getElem?_range hk] at hx
      cases hx
      obtain ⟨h1,h2⟩:=hc.add (f:=0) hk r4 hcl (by omega)
      have ee:=ext_lst a (ys:=(colF rs.length k 0).map rdV) (by rw [List.length_map,List.length_map]; rw [List.length_append] at h2; omega)
      have hrg : mRange1 (mCons (mOp oAdd (mCall cLen (mCons (mOp oIx (mVar 3) (mC (.int 1))) mNil)) (mC (.int 1))) mNil) (lw46 ns b1 b2 (qV xs rs ks) b4 (some (.ref S.length)) (some (.int k)) b7 b8 b9 b10 b11 b12) st = .ok (rangeI 0 (rs.length + 1),[]) st:=rg_ok (by omega) (op_ok (bi_ok (cons_ok (op_ok rfl rfl rfl) rfl) (q_r st)) rfl (addi st _ _))
      refine ⟨_,rfl,_,_,app_ok (p:=.ref S.length) rfl (lstOf_ref a) (cons_ok (val_ok (comp_ok hrg (col_ok rfl _ _ 0 st))) rfl) ee,c ++ colF rs.length k 0,_,h1,h2,?_,?_,?_,rfl⟩
      · exact T.of (List.getElem?_set_ne (by omega))
      · rw [List.length_set]; exact l
      · rw [List.getElem?_set_self (List.getElem?_eq_some_iff.mp a).1,List.map_append])
    ⟨[],_,CutOk.nil _ _,by simp,T.of (List.getElem?_append_left hL),by simp,by simp,rfl⟩
  rw [<- rangeI0,List.length_range] at *
  exact ⟨c,c6,S',hc,T',l',a',f⟩
theorem add_tup {as bs : List PV} (S : Store) (h : as.length + bs.length <= 1000000) : oAdd S (.tup as) (.tup bs) = .ok (.tup (as ++ bs)) S:=if_pos h
theorem last46 (q : Qok xs rs ks) (S : Store) (ns : List Int) (b1 b2 b4 b5 b6 b7 b8 b9 b10 b12 : Option PV) : ∃ c10 c12,forG (gaTup (gaCons (gaName 12) (gaCons (gaName 10) gaNil))) b_law_5 [] [.tup [.int 0,.lst []],.tup [.int 0,.lst [.tup [.int 0,.int 0]]],.tup [.int 1,.tup [.lst [],.lst []]],.tup [.int 2,.non],.tup [.int 3,.non]] (lw46 ns b1 b2 (qV xs rs ks) b4 b5 b6 b7 b8 b9 b10 (some (bqV xs rs ks)) b12) S = .nx (lw46 ns b1 b2 (qV xs rs ks) b4 b5 b6 b7 b8 b9 c10 (some (bqV xs rs ks)) c12) S:=by
  have hall : ∀ x ∈ [(PV.int 0,PV.lst []),(.int 0,.lst [.tup [.int 0,.int 0]]),(.int 1,.tup [.lst [],.lst []]),(.int 2,.non),(.int 3,.non)],F__law_acaught [x.1,bqV xs rs ks,x.2] S = .ok (.str "plan") S:=by
    intro x hx
    simp only [List.mem_cons,List.not_mem_nil,or_false] at hx
    rcases hx with rfl | rfl | rfl | rfl | rfl
    · exact caught0 (bad_w q _ S)
    · exact caught0 (bad_w q _ S)
    · exact caught1 (bad_p q _ S)
    · exact caught2 (bad_b q S)
    · exact caught3 (bad_f q S)
  obtain ⟨Γ',S1,f,c10,c12,rfl,rfl⟩:=forG_inv (g:=fun x : PV × PV=>PV.tup [x.1,x.2]) (xs:=[(PV.int 0,PV.lst []),(.int 0,.lst [.tup [.int 0,.int 0]]),(.int 1,.tup [.lst [],.lst []]),(.int 2,.non),(.int 3,.non)]) (ga:=gaTup (gaCons (gaName 12) (gaCons (gaName 10) gaNil))) (body:=b_law_5) (w:=[]) (Γ:=lw46 ns b1 b2 (qV xs rs ks) b4 b5 b6 b7 b8 b9 b10 (some (bqV xs rs ks)) b12) (st:=S)
    (fun _ Γ st'=>∃ c10 c12,Γ = lw46 ns b1 b2 (qV xs rs ks) b4 b5 b6 b7 b8 b9 c10 (some (bqV xs rs ks)) c12 /\ st' = S) (fun _ _ _ _=>by simp)
    (fun i x Γ st hx ⟨c10,c12,hΓ,hst⟩=>by
      subst hΓ; subst hst
      exact ⟨_,rfl,_,_,if_f (tb_ok (op_ok (call_ok (n:=3) (cons_ok rfl (cons_ok rfl (cons_ok rfl rfl))) rfl (hall x (List.mem_of_getElem? hx))) rfl (nes_f st _))) rfl,some x.2,some x.1,rfl,rfl⟩)
    ⟨_,_,rfl,rfl⟩
  exact ⟨c10,c12,f⟩
end
abbrev lx46 (ns : List Int) (b1 b2 b3 b4 b5 b6 b7 b8 b9 b10 b11 b12 : Option PV) : Gam:=[some (.fro (ns.map .int)),b1,b2,b3,b4,b5,b6,b7,b8,b9,b10,b11,b12]
theorem round46 (ns : List Int) (k : Nat) (S : Store) (b2 b3 b4 b5 b6 b7 b8 b9 b10 b11 b12 : Option PV) : ∃ c2 c3 c4 c5 c6 c7 c8 c9 c10 c11 c12 S',b_law_1 (lx46 ns (some (.int k)) b2 b3 b4 b5 b6 b7 b8 b9 b10 b11 b12) S = .nx (lx46 ns (some (.int k)) c2 c3 c4 c5 c6 c7 c8 c9 c10 c11 c12) S':=by
  obtain ⟨S1,T1,e1⟩:=atape_ok ns k S
  obtain ⟨xs,rs,ks,S2,q,T2,e2⟩:=quest_ok T1
  obtain ⟨S3,T3,e3⟩:=atape_ok ns (k + 1) S2
  have e3 : F__law_atape [.fro (ns.map .int),.int ((k : Int) + 1)] S2 = .ok (.ref S2.length) S3:=e3
  have hL:=T3.lt
  have k5:=q.k5
  obtain ⟨c,c6,S4,hc,T4,l4,a4,f4⟩:=full46 q S3 T3 ns (some (.int k)) (some (.ref S.length)) (some (.ref S2.length)) b6 b7 b8 b9 b10 b11 b12
  obtain ⟨d1,S5,hd1,T5,l5,a5,o5,e5⟩:=acut_ok T4 q
  obtain ⟨d2,S6,hd2,T6,l6,a6,o6,e6⟩:=acut_ok T5 q
  obtain ⟨d3,S7,hd3,T7,l7,a7,o7,e7⟩:=acut_ok T6 q
  have p1 : S7[S4.length]? = some (.lst (d1.map rdV)):=by rw [o7 _ (by omega) (by omega),o6 _ (by omega) (by omega)]; exact a5
  have p2 : S7[S5.length]? = some (.lst (d2.map rdV)):=by rw [o7 _ (by omega) (by omega)]; exact a6
  have p4 : S7[S3.length]? = some (.lst (c.map rdV)):=by rw [o7 _ (by omega) (by omega),o6 _ (by omega) (by omega),o5 _ (by omega) (by omega)]; exact a4
  have hall : ∀ x ∈ [(PV.ref S4.length,d1),(.ref S5.length,d2),(.ref S6.length,d3),(.ref S3.length,c),(.lst [],[])],LA S7 x.1 (x.2.map rdV) /\ CutOk xs.length rs.length x.2:=by
    intro x hx
    simp only [List.mem_cons,List.not_mem_nil,or_false] at hx
    rcases hx with rfl | rfl | rfl | rfl | rfl
    · exact ⟨.inr ⟨_,rfl,p1⟩,hd1⟩
    · exact ⟨.inr ⟨_,rfl,p2⟩,hd2⟩
    · exact ⟨.inr ⟨_,rfl,a7⟩,hd3⟩
    · exact ⟨.inr ⟨_,rfl,p4⟩,hc⟩
    · exact ⟨.inl rfl,CutOk.nil _ _⟩
  obtain ⟨Γ',S8,f8,c7,c8,c9,c10,-,-,rfl⟩:=forG_inv (g:=fun x : PV × List (Nat × Nat)=>x.1) (xs:=[(PV.ref S4.length,d1),(.ref S5.length,d2),(.ref S6.length,d3),(.ref S3.length,c),(.lst [],[])]) (ga:=gaName 7) (body:=b_law_3) (w:=[]) (Γ:=lw46 ns (some (.int k)) (some (.ref S.length)) (qV xs rs ks) (some (.ref S2.length)) (some (.ref S3.length)) c6 b7 b8 b9 b10 b11 b12) (st:=S7)
    (fun _ Γ st'=>∃ c7 c8 c9 c10,(∀ t,t < S7.length -> st'[t]? = S7[t]?) /\ S7.length <= st'.length /\ Γ = lw46 ns (some (.int k)) (some (.ref S.length)) (qV xs rs ks) (some (.ref S2.length)) (some (.ref S3.length)) c6 c7 c8 c9 c10 b11 b12) (fun _ _ _ _=>by simp)
    (fun i x Γ st hx ⟨c7,c8,c9,c10,hk,hl,hΓ⟩=>by
      subst hΓ
      obtain ⟨h1,h2⟩:=hall x (List.mem_of_getElem? hx)
      obtain ⟨c8,c9,c10,S',g1,g2,g3⟩:=cut46 q h2 (h1.keep hk) ns (some (.int k)) (some (.ref S.length)) (some (.ref S2.length)) (some (.ref S3.length)) c6 c8 c9 c10 b11 b12
      exact ⟨_,rfl,_,S',g3,_,_,_,_,fun t ht=>by rw [g1 t (by omega)]; exact hk t ht,by omega,rfl⟩)
    ⟨_,_,_,_,fun _ _=>rfl,Nat.le_refl _,rfl⟩
  obtain ⟨d10,d12,f9⟩:=last46 q S8 ns (some (.int k)) (some (.ref S.length)) (some (.ref S2.length)) (some (.ref S3.length)) c6 c7 c8 c9 c10 b12
  refine ⟨some (.ref S.length),some (qV xs rs ks),some (.ref S2.length),some (.ref S3.length),c6,c7,c8,c9,d10,some (bqV xs rs ks),d12,S8,?_⟩
  refine seq_nx (Γ1:=lx46 ns (some (.int k)) (some (.ref S.length)) b3 b4 b5 b6 b7 b8 b9 b10 b11 b12) (set_ok (call_ok (n:=2) (cons_ok rfl (cons_ok rfl rfl)) rfl e1)) ?_
  refine seq_nx (Γ1:=lw46 ns (some (.int k)) (some (.ref S.length)) (qV xs rs ks) b4 b5 b6 b7 b8 b9 b10 b11 b12) (set_ok (call_ok (n:=2) (cons_ok rfl (cons_ok rfl rfl)) rfl e2)) ?_
  refine seq_nx (Γ1:=lw46 ns (some (.int k)) (some (.ref S.length)) (qV xs rs ks) (some (.ref S2.length)) b5 b6 b7 b8 b9 b10 b11 b12) (set_ok (call_ok (n:=2) (cons_ok rfl (cons_ok (op_ok rfl rfl (addi S2 _ _)) rfl)) rfl e3)) ?_
  refine seq_nx (Γ1:=lw46 ns (some (.int k)) (some (.ref S.length)) (qV xs rs ks) (some (.ref S2.length)) (some (.ref S3.length)) b6 b7 b8 b9 b10 b11 b12) (S1:=S3 ++ [.lst []]) (set_ok (trk_ok (ps:=[]) rfl)) ?_
  refine seq_nx (for_ok (rg_ok (by have:=q.x4; omega) (bi_ok (cons_ok (op_ok rfl rfl rfl) rfl) (q_n _))) f4) ?_
  refine seq_nx (for_ok (sq_ok (p:=.lst [.ref S4.length,.ref S5.length,.ref S6.length,.ref S3.length,.lst []]) (bi_lst (cons_ok (call_ok (n:=2) (cons_ok rfl (cons_ok rfl rfl)) rfl e5) (cons_ok (call_ok (n:=2) (cons_ok rfl (cons_ok rfl rfl)) rfl e6) (cons_ok (call_ok (n:=2) (cons_ok rfl (cons_ok rfl rfl)) rfl e7) (cons_ok rfl (cons_ok (bi_lst rfl) rfl))))) (by simp)) rfl (by simp)) f8) ?_
  refine seq_nx (Γ1:=lw46 ns (some (.int k)) (some (.ref S.length)) (qV xs rs ks) (some (.ref S2.length)) (some (.ref S3.length)) c6 c7 c8 c9 c10 (some (bqV xs rs ks)) b12) (S1:=S8) (set_ok (tup_ok (cons_ok (op_ok rfl rfl rfl) (cons_ok (op_ok rfl rfl rfl) (cons_ok (op_ok (op_ok rfl rfl rfl) (tup_ok (cons_ok (tup_ok (cons_ok rfl (cons_ok rfl (cons_ok rfl rfl))) (by simp)) rfl) (by simp)) (add_tup S8 (by rw [List.length_map]; simp; omega))) rfl))) (by simp))) ?_
  exact for_ok (sq_ok (bi_lst (cons_ok (tup_ok (cons_ok rfl (cons_ok (bi_lst rfl) rfl)) (by simp)) (cons_ok (tup_ok (cons_ok rfl (cons_ok (bi_lst (cons_ok (tup_ok (cons_ok rfl (cons_ok rfl rfl)) (by simp)) rfl) (by simp)) rfl)) (by simp)) (cons_ok (tup_ok (cons_ok rfl (cons_ok (tup_ok (cons_ok (bi_lst rfl) (cons_ok (bi_lst rfl) rfl)) (by simp)) rfl)) (by simp)) (cons_ok (tup_ok (cons_ok rfl (cons_ok rfl rfl)) (by simp)) (cons_ok (tup_ok (cons_ok rfl (cons_ok rfl rfl)) (by simp)) rfl))))) (by simp)) rfl (by simp)) f9
theorem law_true (ns : List Int) : F_law [.fro (ns.map .int)] [] = .ok (.bl true) []:=by
  obtain ⟨j,hj1,hj2,hmx⟩ : ∃ j : Int,1 <= j /\ j <= 12 /\ mCall cMax (mCons (mC (.int 1)) (mCons (mCall cMin (mCons (mC (.int 12)) (mCons (mCall cLen (mCons (mVar 0) mNil)) mNil))) mNil)) (lx46 ns none none none none none none none none none none none none) [] = .ok (.int j) []:=by
    refine ⟨if (if (ns.length : Int) < 12 then (ns.length : Int) else 12) > 1 then (if (ns.length : Int) < 12 then (ns.length : Int) else 12) else 1,by split <;> omega,by split <;> (try split) <;> omega,?_⟩
    have hl : (ns.map PV.int).length = ns.length:=List.length_map _
    unfold lx46
    generalize ns.map PV.int = nv at *
    generalize ns.length = nl at *
    simp -implicitDefEqProofs [hl]
  obtain ⟨m,hm⟩ : ∃ m,rsz 0 j 2 = m:=⟨_,rfl⟩
  obtain ⟨Γ',S1,e1,c1,c2,c3,c4,c5,c6,c7,c8,c9,c10,c11,c12,rfl⟩:=forG_inv (g:=fun k : Nat=>PV.int (0 + (k : Int) * 2)) (xs:=List.range m) (ga:=gaName 1) (body:=b_law_1) (w:=[]) (Γ:=lx46 ns none none none none none none none none none none none none) (st:=[])
    (fun _ Γ st'=>∃ c1 c2 c3 c4 c5 c6 c7 c8 c9 c10 c11 c12,Γ = lx46 ns c1 c2 c3 c4 c5 c6 c7 c8 c9 c10 c11 c12)
    (fun _ _ _ _=>by simp)
    (fun i k Γ st' _ ⟨c1,c2,c3,c4,c5,c6,c7,c8,c9,c10,c11,c12,g1⟩=>by
      subst g1
      obtain ⟨d2,d3,d4,d5,d6,d7,d8,d9,d10,d11,d12,S2,h⟩:=round46 ns (2 * k) st' c2 c3 c4 c5 c6 c7 c8 c9 c10 c11 c12
      rw [show ((2 * k : Nat) : Int) = 0 + (k : Int) * 2 by omega] at h
      exact ⟨_,rfl,_,S2,h,_,_,_,_,_,_,_,_,_,_,_,_,rfl⟩)
    ⟨_,_,_,_,_,_,_,_,_,_,_,_,rfl⟩
  have hfin : ∀ S,fin [] (.bl true) S = .ok (.bl true) []:=fun S=>by simp [fin,fz]
  have hr : mRange3 (mCons (mC (.int 0)) (mCons (mCall cMax (mCons (mC (.int 1)) (mCons (mCall cMin (mCons (mC (.int 12)) (mCons (mCall cLen (mCons (mVar 0) mNil)) mNil))) mNil))) (mCons (mC (.int 2)) mNil))) (lx46 ns none none none none none none none none none none none none) [] = .ok (rangeS 0 2 m,[]) []:=by
    rw [mRange3_eq,cons_ok (p:=.int 0) rfl (cons_ok hmx (cons_ok (p:=.int 2) rfl (show mNil _ _ = .ok [] _ from rfl))),bind_ok]
    show (if (2 : Int) ≠ 0 /\ -1000000 <= (0 : Int) /\ (0 : Int) <= 1000000 /\ -1000000 <= j /\ j <= 1000000 /\ -1000000 <= (2 : Int) /\ (2 : Int) <= 1000000 then Res.ok (rangeS 0 2 (rsz 0 j 2),[]) [] else .stuck) = _
    rw [if_pos (by omega),hm]
  have step : m_law (lx46 ns none none none none none none none none none none none none) [] = .rt (.bl true) S1:=seq_nx (for_ok hr e1) (ret_ok rfl)
  exact (callF_rt (m:=m_law) (nl:=13) (ps:=[.fro (ns.map .int)]) step).trans (hfin S1)
theorem law_all : ∀ ns : List Int,ns.length <= 63 -> ∃ st',F_law [.fro (ns.map .int)] [] = .ok (.bl true) st':=fun ns _=>⟨[],law_true ns⟩
end Lw
namespace Lw
open PySem PySem.Spec L2 Sm
theorem all_mk {l : PySem.W.OpenLaw} {w : World} {K : PySem.W.Frag} {h : Heap} {mg : Str -> Option Value} {fa f1 f2 f3 f4 f5 f6 f7 f8 f9 f10 f11 f12 f13 f14 f15 f16 f17 f18 f19 f20 f21 f22 f23 f24 f25 f26 f27 f28 f29 f30 f31 f32 f33 f34 f35 f36 f37 f38 f39 f40 f41 f42 f43 f44 f45 f46 f47 f48 : Addr} (X : K.In h) (G : h.Ns mainGlobals mg) (hfa : mg "law" = some (.ref fa))
    {od48 an48 : Option Addr} {sl48 : Array (Option Value)} {oc48 kV48 dc48 pm48 cd48 ct48 : Value}
    {e_NoPlan : Addr}
    {t_MOST_HOUSES_OF_PLAN : Tok}
    {t_MOST_ROUNDS_OF_PLAN : Tok}
    {t_MOST_TAKINGS : Tok}
    {t_MOST_AT_ONCE : Tok}
    {ee0 ee1 ee2 ee3 ee4 ee5 ee6 ee7 ee8 ee9 ee10 ee11 ee12 ee13 ee14 : Addr} {cdx7 : ClassData}
    (a48 : PySem.W.nsIn K mainGlobals "law" = some (some (.ref f48)))
    (l48 : K.lookup f48 = some ⟨oc48,od48,.func (PySem.W.fnOf "law" "law" (defArgs s_law) (defBody s_law) (defScope s_law) .none kV48 dc48 pm48 an48 cd48 ct48),sl48⟩)
    (c48 : PySem.W.codeIn K cd48 "law" = true)
    (k48 : PySem.W.keepIn K (.ref f48) = true)
    (z_all : PySem.W.nsIn K mainGlobals "all" = some none)
    (z_any : PySem.W.nsIn K mainGlobals "any" = some none)
    (z_bool : PySem.W.nsIn K mainGlobals "bool" = some none)
    (z_enumerate : PySem.W.nsIn K mainGlobals "enumerate" = some none)
    (z_int : PySem.W.nsIn K mainGlobals "int" = some none)
    (z_isinstance : PySem.W.nsIn K mainGlobals "isinstance" = some none)
    (z_len : PySem.W.nsIn K mainGlobals "len" = some none)
    (z_list : PySem.W.nsIn K mainGlobals "list" = some none)
    (z_max : PySem.W.nsIn K mainGlobals "max" = some none)
    (z_min : PySem.W.nsIn K mainGlobals "min" = some none)
    (z_range : PySem.W.nsIn K mainGlobals "range" = some none)
    (z_sorted : PySem.W.nsIn K mainGlobals "sorted" = some none)
    (z_sum : PySem.W.nsIn K mainGlobals "sum" = some none)
    (z_tuple : PySem.W.nsIn K mainGlobals "tuple" = some none)
    (z_zip : PySem.W.nsIn K mainGlobals "zip" = some none)
    (v_MOST_HOUSES_OF_PLAN : PySem.W.nsIn K mainGlobals "MOST_HOUSES_OF_PLAN" = some (some (.int 6 t_MOST_HOUSES_OF_PLAN)))
    (v_MOST_ROUNDS_OF_PLAN : PySem.W.nsIn K mainGlobals "MOST_ROUNDS_OF_PLAN" = some (some (.int 10 t_MOST_ROUNDS_OF_PLAN)))
    (v_MOST_TAKINGS : PySem.W.nsIn K mainGlobals "MOST_TAKINGS" = some (some (.int 20 t_MOST_TAKINGS)))
    (v_MOST_AT_ONCE : PySem.W.nsIn K mainGlobals "MOST_AT_ONCE" = some (some (.int 1000000 t_MOST_AT_ONCE)))
    (n_NoPlan : PySem.W.nsIn K mainGlobals "NoPlan" = some (some (.ref e_NoPlan)))
    (nn0 : PySem.W.nsIn K mainGlobals "WharfError" = some (some (.ref ee0)))
    (nn1 : PySem.W.nsIn K mainGlobals "NoTable" = some (some (.ref ee1)))
    (nn2 : PySem.W.nsIn K mainGlobals "NoHouse" = some (some (.ref ee2)))
    (nn3 : PySem.W.nsIn K mainGlobals "NoDeed" = some (some (.ref ee3)))
    (nn4 : PySem.W.nsIn K mainGlobals "NoLetter" = some (some (.ref ee4)))
    (nn5 : PySem.W.nsIn K mainGlobals "NoStand" = some (some (.ref ee5)))
    (nn6 : PySem.W.nsIn K mainGlobals "NoRoad" = some (some (.ref ee6)))
    (nn7 : PySem.W.nsIn K mainGlobals "NoPlan" = some (some (.ref ee7)))
    (nn8 : PySem.W.nsIn K mainGlobals "NoBook" = some (some (.ref ee8)))
    (nn9 : PySem.W.nsIn K mainGlobals "NoManner" = some (some (.ref ee9)))
    (nn10 : PySem.W.nsIn K mainGlobals "TooMany" = some (some (.ref ee10)))
    (nn11 : PySem.W.nsIn K mainGlobals "NoText" = some (some (.ref ee11)))
    (nn12 : PySem.W.nsIn K mainGlobals "NoRow" = some (some (.ref ee12)))
    (nn13 : PySem.W.nsIn K mainGlobals "NoName" = some (some (.ref ee13)))
    (nn14 : PySem.W.nsIn K mainGlobals "Short" = some (some (.ref ee14)))
    (nzValueError : PySem.W.nsIn K mainGlobals "ValueError" = some none)
    (nzisinstance : PySem.W.nsIn K mainGlobals "isinstance" = some none)
    (xgs : PySem.W.specialIn K (.builtin "object.__class__") "__get__" = some (some (.builtin "getset_descriptor.__get__")))
    (xtk : PySem.W.takesIn K (.builtin "object.__class__") = some true)
    (xcls7 : PySem.W.clsIn K ee7 = some cdx7)
    (xga7 : PySem.W.findIn K (.ref ee7) "__getattribute__" = some (some (.builtin "BaseException.__getattribute__")))
    (xgt7 : PySem.W.findIn K (.ref ee7) "__getattr__" = some none)
    (xcl7 : PySem.W.findIn K (.ref ee7) "__class__" = some (some (.builtin "object.__class__")))
    (xob7 : PySem.W.mroIn K ee7 (.type "object") = some true)
    (xbe7 : PySem.W.mroIn K ee7 (.type "BaseException") = some true)
    (h1 : FA K "is_whole" s_is_whole f1)
    (h2 : FA K "is_between" s_is_between f2)
    (h3 : FA K "is_rising" s_is_rising f3)
    (h4 : FA K "is_sized_tuple" s_is_sized_tuple f4)
    (h5 : FA K "is_road" s_is_road f5)
    (h6 : FA K "behind_round" s_behind_round f6)
    (h7 : FA K "is_start" s_is_start f7)
    (h8 : FA K "is_road_with_most" s_is_road_with_most f8)
    (h9 : FA K "are_roads_of_one_round" s_are_roads_of_one_round f9)
    (h10 : FA K "are_roads_of_plan" s_are_roads_of_plan f10)
    (h11 : FA K "is_place" s_is_place f11)
    (h12 : FA K "is_taking" s_is_taking f12)
    (h13 : FA K "are_takings" s_are_takings f13)
    (h14 : FA K "is_question" s_is_question f14)
    (h15 : FA K "need_question" s_need_question f15)
    (h16 : FA K "loads_of" s_loads_of f16)
    (h17 : FA K "most_by" s_most_by f17)
    (h18 : FA K "do_roads_bear" s_do_roads_bear f18)
    (h19 : FA K "are_served" s_are_served f19)
    (h20 : FA K "behind_takings" s_behind_takings f20)
    (h21 : FA K "do_houses_have" s_do_houses_have f21)
    (h22 : FA K "is_plan" s_is_plan f22)
    (h23 : FA K "is_cut" s_is_cut f23)
    (h24 : FA K "weight_of_round" s_weight_of_round f24)
    (h25 : FA K "weight" s_weight f25)
    (h26 : FA K "ways_of" s_ways_of f26)
    (h27 : FA K "ways_by_end" s_ways_by_end f27)
    (h28 : FA K "other_end" s_other_end f28)
    (h29 : FA K "reached" s_reached f29)
    (h30 : FA K "steps_back" s_steps_back f30)
    (h31 : FA K "room_by" s_room_by f31)
    (h32 : FA K "serve" s_serve f32)
    (h33 : FA K "moves_by" s_moves_by f33)
    (h34 : FA K "all_served" s_all_served f34)
    (h35 : FA K "best" s_best f35)
    (h36 : FA K "first_served" s_first_served f36)
    (h37 : FA K "_law_acell" s__law_acell f37)
    (h38 : FA K "_law_atape" s__law_atape f38)
    (h39 : FA K "_law_adigit" s__law_adigit f39)
    (h40 : FA K "_law_awhole" s__law_awhole f40)
    (h41 : FA K "_law_akind" s__law_akind f41)
    (h42 : FA K "_law_ahow" s__law_ahow f42)
    (h43 : FA K "_law_aquestion" s__law_aquestion f43)
    (h44 : FA K "_law_aweight" s__law_aweight f44)
    (h45 : FA K "_law_acut" s__law_acut f45)
    (h46 : FA K "_law_acaught" s__law_acaught f46)
    (h47 : FA K "_law_ano_cuts" s__law_ano_cuts f47)
    (x_NoPlan : PySem.W.excIn K e_NoPlan bmVE "ValueError.__new__" = true)
    (xve7 : PySem.W.kitOne K (.ref ee7) (.type "ValueError") = some true)
    (xw7 : PySem.W.kitOne K (.ref ee7) (.ref ee0) = some true)
    (xk7_1 : PySem.W.kitOne K (.ref ee7) (.ref ee1) = some false)
    (xk7_2 : PySem.W.kitOne K (.ref ee7) (.ref ee2) = some false)
    (xk7_3 : PySem.W.kitOne K (.ref ee7) (.ref ee3) = some false)
    (xk7_4 : PySem.W.kitOne K (.ref ee7) (.ref ee4) = some false)
    (xk7_5 : PySem.W.kitOne K (.ref ee7) (.ref ee5) = some false)
    (xk7_6 : PySem.W.kitOne K (.ref ee7) (.ref ee6) = some false)
    (xk7_7 : PySem.W.kitOne K (.ref ee7) (.ref ee7) = some true)
    (xk7_8 : PySem.W.kitOne K (.ref ee7) (.ref ee8) = some false)
    (xk7_9 : PySem.W.kitOne K (.ref ee7) (.ref ee9) = some false)
    (xk7_10 : PySem.W.kitOne K (.ref ee7) (.ref ee10) = some false)
    (xk7_11 : PySem.W.kitOne K (.ref ee7) (.ref ee11) = some false)
    (xk7_12 : PySem.W.kitOne K (.ref ee7) (.ref ee12) = some false)
    (xk7_13 : PySem.W.kitOne K (.ref ee7) (.ref ee13) = some false)
    (xk7_14 : PySem.W.kitOne K (.ref ee7) (.ref ee14) = some false)
    (xex7 : PySem.W.exmOne K (.ref ee7) (.ref ee0) = some true)
    (hL : noL K = true) :
    ∃ fd : FuncData,(∀ (s : Shared) (v : Value),BindsTo s fd ⟨[v],[]⟩ [("script",v)]) /\ ∀ base : Heap,K.In base -> base.Ns mainGlobals mg -> FnOk l.prog w K mg base (CXD l.prog w) 11 fa fd ["script"] (spLawS K):=by
  have e:=hfa.symm.trans (PySem.W.mg_of X G a48)
  cases e
  have T : Txt mg:=⟨PySem.W.mg_none_of X G z_all,PySem.W.mg_none_of X G z_any,PySem.W.mg_none_of X G z_bool,PySem.W.mg_none_of X G z_enumerate,PySem.W.mg_none_of X G z_int,PySem.W.mg_none_of X G z_isinstance,PySem.W.mg_none_of X G z_len,PySem.W.mg_none_of X G z_list,PySem.W.mg_none_of X G z_max,PySem.W.mg_none_of X G z_min,PySem.W.mg_none_of X G z_range,PySem.W.mg_none_of X G z_sorted,PySem.W.mg_none_of X G z_sum,PySem.W.mg_none_of X G z_tuple,PySem.W.mg_none_of X G z_zip,⟨_,PySem.W.mg_of X G v_MOST_HOUSES_OF_PLAN⟩,⟨_,PySem.W.mg_of X G v_MOST_ROUNDS_OF_PLAN⟩,⟨_,PySem.W.mg_of X G v_MOST_TAKINGS⟩,⟨_,PySem.W.mg_of X G v_MOST_AT_ONCE⟩⟩
  have C_NoPlan : ∃ C,mg "NoPlan" = some (.ref C) /\ PySem.W.excIn K C bmVE "ValueError.__new__" = true:=⟨_,PySem.W.mg_of X G n_NoPlan,x_NoPlan⟩
  have Nm : Nms mg (fun i=>[ee0,ee1,ee2,ee3,ee4,ee5,ee6,ee7,ee8,ee9,ee10,ee11,ee12,ee13,ee14].getD i 0):=⟨PySem.W.mg_of X G nn0,PySem.W.mg_of X G nn1,PySem.W.mg_of X G nn2,PySem.W.mg_of X G nn3,PySem.W.mg_of X G nn4,PySem.W.mg_of X G nn5,PySem.W.mg_of X G nn6,PySem.W.mg_of X G nn7,PySem.W.mg_of X G nn8,PySem.W.mg_of X G nn9,PySem.W.mg_of X G nn10,PySem.W.mg_of X G nn11,PySem.W.mg_of X G nn12,PySem.W.mg_of X G nn13,PySem.W.mg_of X G nn14,PySem.W.mg_none_of X G nzValueError,PySem.W.mg_none_of X G nzisinstance⟩
  have XC7 : XCls K ee7:=⟨show (PySem.W.clsIn K ee7).isSome = true by rw [xcls7]; rfl,xga7,xgt7,xcl7,xgs,xtk,xob7,xbe7⟩
  have T7 : TgtS K (fun i=>[ee0,ee1,ee2,ee3,ee4,ee5,ee6,ee7,ee8,ee9,ee10,ee11,ee12,ee13,ee14].getD i 0) 7:=⟨XC7,xve7,xex7,fun i h1 h2=>match i,h1,h2 with | 0,h,_=>absurd h (by omega) | 1,_,_=>xk7_1 | 2,_,_=>xk7_2 | 3,_,_=>xk7_3 | 4,_,_=>xk7_4 | 5,_,_=>xk7_5 | 6,_,_=>xk7_6 | 7,_,_=>xk7_7 | 8,_,_=>xk7_8 | 9,_,_=>xk7_9 | 10,_,_=>xk7_10 | 11,_,_=>xk7_11 | 12,_,_=>xk7_12 | 13,_,_=>xk7_13 | 14,_,_=>xk7_14 | _ + 15,_,h=>absurd h (by omega)⟩
  have TT : ∀ t wd,(t,wd) ∈ kdL -> TgtS K (fun i=>[ee0,ee1,ee2,ee3,ee4,ee5,ee6,ee7,ee8,ee9,ee10,ee11,ee12,ee13,ee14].getD i 0) t /\ PySem.W.kitOne K (.ref ([ee0,ee1,ee2,ee3,ee4,ee5,ee6,ee7,ee8,ee9,ee10,ee11,ee12,ee13,ee14].getD t 0)) (.ref ee0) = some true:=fun t wd h=>by
    simp only [kdL,List.mem_cons,Prod.mk.injEq,List.not_mem_nil,or_false] at h
    rcases h with ⟨rfl,rfl⟩
    · exact ⟨T7,xw7⟩
  obtain ⟨_,A1⟩:=atS2 ["thing"] X G h1
  obtain ⟨_,A2⟩:=atS2 ["thing", "least", "most"] X G h2
  obtain ⟨_,A3⟩:=atS2 ["things"] X G h3
  obtain ⟨_,A4⟩:=atS2 ["thing", "least", "most"] X G h4
  obtain ⟨_,A5⟩:=atS2 ["n", "thing"] X G h5
  obtain ⟨_,A6⟩:=atS2 ["has", "moves"] X G h6
  obtain ⟨_,A7⟩:=atS2 ["thing"] X G h7
  obtain ⟨_,A8⟩:=atS2 ["n", "thing"] X G h8
  obtain ⟨_,A9⟩:=atS2 ["n", "thing"] X G h9
  obtain ⟨_,A10⟩:=atS2 ["n", "thing"] X G h10
  obtain ⟨_,A11⟩:=atS2 ["n", "rounds", "house", "moment"] X G h11
  obtain ⟨_,A12⟩:=atS2 ["n", "rounds", "thing"] X G h12
  obtain ⟨_,A13⟩:=atS2 ["n", "rounds", "thing"] X G h13
  obtain ⟨_,A14⟩:=atS2 ["thing"] X G h14
  obtain ⟨_,A15⟩:=atS2 ["question"] X G h15
  obtain ⟨_,A16⟩:=atS2 ["moves"] X G h16
  obtain ⟨_,A17⟩:=atS2 ["roads", "number", "i", "j"] X G h17
  obtain ⟨_,A18⟩:=atS2 ["roads", "moves"] X G h18
  obtain ⟨_,A19⟩:=atS2 ["takings", "served"] X G h19
  obtain ⟨_,A20⟩:=atS2 ["takings", "served", "has", "moment"] X G h20
  obtain ⟨_,A21⟩:=atS2 ["question", "moves", "served"] X G h21
  obtain ⟨_,A22⟩:=atS2 ["question", "plan"] X G h22
  obtain ⟨_,A23⟩:=atS2 ["question", "cut"] X G h23
  obtain ⟨_,A24⟩:=atS2 ["roads", "cut", "number"] X G h24
  obtain ⟨_,A25⟩:=atS2 ["question", "cut"] X G h25
  obtain ⟨_,A26⟩:=atS2 ["question"] X G h26
  obtain ⟨_,A27⟩:=atS2 ["ways"] X G h27
  obtain ⟨_,A28⟩:=atS2 ["way", "load", "end"] X G h28
  obtain ⟨_,A29⟩:=atS2 ["ways", "loads"] X G h29
  obtain ⟨_,A30⟩:=atS2 ["ways", "found", "place"] X G h30
  obtain ⟨_,A31⟩:=atS2 ["ways", "loads", "steps"] X G h31
  obtain ⟨_,A32⟩:=atS2 ["ways", "loads", "taking"] X G h32
  obtain ⟨_,A33⟩:=atS2 ["ways", "loads"] X G h33
  obtain ⟨_,A34⟩:=atS2 ["question"] X G h34
  obtain ⟨_,A35⟩:=atS2 ["question"] X G h35
  obtain ⟨_,A36⟩:=atS2 ["question"] X G h36
  obtain ⟨_,A37⟩:=atS2 ["script", "k"] X G h37
  obtain ⟨_,A38⟩:=atS2 ["script", "k"] X G h38
  obtain ⟨_,A39⟩:=atS2 ["tape", "many"] X G h39
  obtain ⟨_,A40⟩:=atS2 ["found"] X G h40
  obtain ⟨_,A41⟩:=atS2 ["caught"] X G h41
  obtain ⟨_,A42⟩:=atS2 ["tape", "few"] X G h42
  obtain ⟨_,A43⟩:=atS2 ["tape", "most"] X G h43
  obtain ⟨_,A44⟩:=atS2 ["question", "cut"] X G h44
  obtain ⟨_,A45⟩:=atS2 ["tape", "question"] X G h45
  obtain ⟨_,A46⟩:=atS2 ["way", "question", "thing"] X G h46
  obtain ⟨_,A47⟩:=atS2 ["question", "cut"] X G h47
  have A48:=atS_mk (st:=s_law) (ps:=["script"]) X G a48 l48 c48 k48 fun _ _ _ _ _ _ us hl=>match us,hl with | [_],_=>rfl
  refine ⟨PySem.W.fnOf "law" "law" (defArgs s_law) (defBody s_law) (defScope s_law) .none kV48 dc48 pm48 an48 cd48 ct48,fun s v=>.of_eq rfl,fun base kb nb=>?_⟩
  have D_is_whole:=A1.d l.prog w base rfl (ok_is_whole A1.F T    )
  have D_is_between:=A2.d l.prog w base rfl (ok_is_between A2.F T   D_is_whole )
  have D_is_rising:=A3.d l.prog w base rfl (ok_is_rising A3.F T    )
  have D_is_sized_tuple:=A4.d l.prog w base rfl (ok_is_sized_tuple A4.F T    )
  have D_is_road:=A5.d l.prog w base rfl (ok_is_road A5.F T   D_is_between )
  have D_behind_round:=A6.d l.prog w base rfl (ok_behind_round A6.F T    )
  have D_is_start:=A7.d l.prog w base rfl (ok_is_start A7.F T   D_is_sized_tuple D_is_between )
  have D_is_road_with_most:=A8.d l.prog w base rfl (ok_is_road_with_most A8.F T   D_is_sized_tuple D_is_road D_is_between )
  have D_are_roads_of_one_round:=A9.d l.prog w base rfl (ok_are_roads_of_one_round A9.F T   D_is_road_with_most D_is_rising )
  have D_are_roads_of_plan:=A10.d l.prog w base rfl (ok_are_roads_of_plan A10.F T   D_is_sized_tuple D_are_roads_of_one_round )
  have D_is_place:=A11.d l.prog w base rfl (ok_is_place A11.F T   D_is_between )
  have D_is_taking:=A12.d l.prog w base rfl (ok_is_taking A12.F T   D_is_sized_tuple D_is_place D_is_between )
  have D_are_takings:=A13.d l.prog w base rfl (ok_are_takings A13.F T   D_is_sized_tuple D_is_taking )
  have D_is_question:=A14.d l.prog w base rfl (ok_is_question A14.F T   D_is_sized_tuple D_is_start D_are_roads_of_plan D_are_takings )
  have D_need_question:=A15.d l.prog w base rfl (ok_need_question A15.F T  C_NoPlan D_is_question )
  have D_loads_of:=A16.d l.prog w base rfl (ok_loads_of A16.F T    )
  have D_most_by:=A17.d l.prog w base rfl (ok_most_by A17.F T    )
  have D_do_roads_bear:=A18.d l.prog w base rfl (ok_do_roads_bear A18.F T    )
  have D_are_served:=A19.d l.prog w base rfl (ok_are_served A19.F T    )
  have D_behind_takings:=A20.d l.prog w base rfl (ok_behind_takings A20.F T    )
  have D_do_houses_have:=A21.d l.prog w base rfl (ok_do_houses_have A21.F T    )
  have D_is_plan:=A22.d l.prog w base rfl (ok_is_plan A22.F T   D_need_question D_are_served D_do_roads_bear D_do_houses_have )
  have D_is_cut:=A23.d l.prog w base rfl (ok_is_cut A23.F T   D_is_place D_is_rising )
  have D_weight_of_round:=A24.d l.prog w base rfl (ok_weight_of_round A24.F T    )
  have D_weight:=A25.d l.prog w base rfl (ok_weight A25.F T  C_NoPlan D_need_question D_is_cut D_weight_of_round )
  have D_ways_of:=A26.d l.prog w base rfl (ok_ways_of A26.F T    )
  have D_ways_by_end:=A27.d l.prog w base rfl (ok_ways_by_end A27.F T    )
  have D_other_end:=A28.d l.prog w base rfl (ok_other_end A28.F T    )
  have D_reached:=A29.d l.prog w base rfl (ok_reached A29.F T    )
  have D_steps_back:=A30.d l.prog w base rfl (ok_steps_back A30.F T    )
  have D_room_by:=A31.d l.prog w base rfl (ok_room_by A31.F T    )
  have D_serve:=A32.d l.prog w base rfl (ok_serve A32.F T    )
  have D_moves_by:=A33.d l.prog w base rfl (ok_moves_by A33.F T    )
  have D_all_served:=A34.d l.prog w base rfl (ok_all_served A34.F T    )
  have D_best:=A35.d l.prog w base rfl (ok_best A35.F T   D_need_question D_all_served )
  have D_first_served:=A36.d l.prog w base rfl (ok_first_served A36.F T   D_need_question D_all_served )
  have D__law_acell:=A37.d l.prog w base rfl (ok__law_acell A37.F T    )
  have D__law_atape:=A38.d l.prog w base rfl (ok__law_atape A38.F T   D__law_acell )
  have D__law_adigit:=A39.d l.prog w base rfl (ok__law_adigit A39.F T    )
  have D__law_awhole:=A40.d l.prog w base rfl (ok__law_awhole A40.F T    )
  have D__law_akind:=A41.defX (P:=l.prog) (w:=w) (base:=base) (ok__law_akind A41.F T Nm TT   )
  have D__law_ahow:=A42.d l.prog w base rfl (ok__law_ahow A42.F T   D__law_adigit )
  have D__law_aquestion:=A43.d l.prog w base rfl (ok__law_aquestion A43.F T   D__law_adigit D__law_ahow )
  have D__law_aweight:=A44.d l.prog w base rfl (ok__law_aweight A44.F T    )
  have D__law_acut:=A45.d l.prog w base rfl (ok__law_acut A45.F T   D__law_adigit )
  have D__law_acaught:=A46.d l.prog w base rfl (ok__law_acaught A46.F T Nm TT D_weight D_is_plan D_best D_first_served  D__law_akind )
  have D__law_ano_cuts:=A47.d l.prog w base rfl (ok__law_ano_cuts A47.F T    )
  exact law_imp hL (ok_law A48.F T   D__law_atape D__law_aquestion D__law_acut D_weight D__law_awhole D__law_aweight D__law_ano_cuts D__law_acaught ) law_all
end Lw
theorem PySem.W.Fast.tw3284713624672618246 : True := trivial
theorem PySem.W.Fast.tw17140440569979925030 : True := trivial
theorem PySem.W.Fast.tw15156497606510948668 : True := trivial
theorem PySem.W.Fast.tw232021257708080726 : True := trivial
theorem PySem.W.Fast.tw13539861277120010423 : True := trivial
theorem PySem.W.Fast.tw3976868987335025507 : True := trivial
theorem PySem.W.Fast.tw15348303218745616855 : True := trivial
theorem PySem.W.Fast.tw3603225165782966519 : True := trivial
theorem PySem.W.Fast.tw4183220168386808319 : True := trivial
theorem PySem.W.Fast.tw8369658131105319677 : True := trivial
theorem PySem.W.Fast.tw1000564715832555104 : True := trivial
theorem PySem.W.Fast.tw7789187650854642608 : True := trivial
theorem PySem.W.Fast.tw11607996980737609541 : True := trivial
theorem PySem.W.Fast.tw7723868949314293122 : True := trivial
theorem PySem.W.Fast.tw17404756804130966304 : True := trivial
theorem PySem.W.Fast.tw10730765131123551896 : True := trivial
theorem PySem.W.Fast.tw18127128623056938941 : True := trivial
theorem PySem.W.Fast.tw9185867625975153257 : True := trivial
theorem PySem.W.Fast.tw33293816273832595 : True := trivial
theorem PySem.W.Fast.tw5378032705403638728 : True := trivial
theorem PySem.W.Fast.tw18198943373085275326 : True := trivial
theorem PySem.W.Fast.te17941500996434919282 : True := trivial
open PySem PySem.W PyProof.Rows Sm
set_option maxRecDepth 100000 in
set_option maxHeartbeats 0 in
theorem PySem.Challenge.cw_lendwharf_k46_cuts_weighed_holds : PySem.Challenge.rw_lendwharf_k46_cuts_weighed.Holds := by
  w_on; o_law; k_head; (case hw=>w_witness2)
  k_fill
  refine Sm.walkS (l:=PySem.Challenge.rw_lendwharf_k46_cuts_weighed) (k:=11) rfl ⟨rfl,by decide,by decide⟩ rfl (fun w h Y=>PySem.W.kIn_of Y) ?F
  case F=>
    intro w mg fa h KX G hmg
    refine' Lw.all_mk KX G hmg ..
    any_goals k_is
    any_goals exact FA.mk (by k_is) (by k_is) (by k_is) (by k_is)
    any_goals k_exc
    all_goals first | kts_exm | kit_is | rfl | decide
