import PyProof.Rows.All
import Wide.All
import OpenK.AllK
import Wide.FinOn
import Lean
import PyProof.EqAt
import PyProof.EqKinds
import PyProof.TupleCall
import PyProof.ZipIter
import PyProof.Draws
import PyProof.SumAny
import PyProof.EnumMake
import PyProof.WalkInts
import PyProof.ExcArgsOwn
import PyProof.ExcAttrAll.ValueError
import PyProof.NsDelKeeps
import KE.KTryMore
import OpenK.KOwn
import PyProof.ListMulRoad
import PyProof.FactsAll.tuple_2
import PyProof.NeKinds
import PyProof.Rows.RuleIs
import PyProof.ExcInit
import PyProof.ExcClass3
import OpenK.KCls
import PyProof.InstStoreFacts
import OpenK.KMake
import PyProof.DictRoads
import PyProof.Rows.CountFlat
import PyProof.ListRange
import PyProof.Rows.SetFrom
import PyProof.CollectStr
import PyProof.Rows.TupMore
import PySem.Challenge.RW_lendwharf_k12_steps
set_option Elab.async false
set_option linter.all false
set_option maxRecDepth 100000
set_option maxHeartbeats 4000000
noncomputable section
namespace L2
open PySem PySem.Spec PyProof.Rows
abbrev Key:=Sum Int Str
def keyIs : Key -> Value -> Bool
  | .inl k,v=>Value.isInt k v
  | .inr x,v=>Value.isStrOf x v
def keyH (w : World) : Key -> Int
  | .inl k=>hashInt k
  | .inr x=>hashStr w x
theorem keyIs_shape : ∀ {k : Key} {v : Value},keyIs k v = true -> (∃ i t,k = Sum.inl i /\ v = Value.int i t) \/ (∃ x t,k = Sum.inr x /\ v = Value.str x t)
  | .inl i,v,h=>by
    obtain ⟨t,e⟩:=Value.isInt_shape (k:=i) (v:=v) h
    exact .inl ⟨i,t,rfl,e⟩
  | .inr x,v,h=>by
    obtain ⟨t,e⟩:=Value.isStrOf_shape (x:=x) (v:=v) h
    exact .inr ⟨x,t,rfl,e⟩
theorem key_ll (a b : Int) : decide ((Sum.inl a : Key) = Sum.inl b) = (a == b):=by
  by_cases e : a = b
  · subst e; simp
  · have h : ¬ (Sum.inl a : Key) = Sum.inl b:=fun q=>e (Sum.inl.inj q)
    rw [decide_eq_false h]
    exact (beq_eq_false_iff_ne.mpr e).symm
theorem key_rr (a b : Str) : decide ((Sum.inr a : Key) = Sum.inr b) = decide (a = b):=by
  by_cases e : a = b
  · subst e; simp
  · have h : ¬ (Sum.inr a : Key) = Sum.inr b:=fun q=>e (Sum.inr.inj q)
    rw [decide_eq_false h,decide_eq_false e]
theorem key_lr (a : Int) (b : Str) : decide ((Sum.inl a : Key) = Sum.inr b) = false:=decide_eq_false (fun q=>nomatch q)
theorem key_rl (a : Str) (b : Int) : decide ((Sum.inr a : Key) = Sum.inl b) = false:=decide_eq_false (fun q=>nomatch q)
def mixKind (prog : Program) (w : World) : PySem.KeyKind prog w Key where
  is:=keyIs
  hash:=keyH w
  inj:=fun v a b ha hb=>by
    rcases keyIs_shape ha with ⟨i,t,rfl,rfl⟩ | ⟨x,t,rfl,rfl⟩
    · rcases keyIs_shape hb with ⟨j,u,rfl,e⟩ | ⟨y,u,rfl,e⟩
      · injection e with e1 _; rw [e1]
      · exact nomatch e
    · rcases keyIs_shape hb with ⟨j,u,rfl,e⟩ | ⟨y,u,rfl,e⟩
      · exact nomatch e
      · injection e with e1 _; rw [e1]
  byValue:=fun k v h=>by
    rcases keyIs_shape h with ⟨i,t,rfl,rfl⟩ | ⟨x,t,rfl,rfl⟩ <;> rfl
  pyHash:=fun hv h=>by
    rcases keyIs_shape hv with ⟨i,t,rfl,rfl⟩ | ⟨x,t,rfl,rfl⟩
    · exact wpAny_pyHash_int h
    · exact wpAny_pyHash_str h
  eqBool:=fun hu hv h=>by
    rcases keyIs_shape hu with ⟨i,t,rfl,rfl⟩ | ⟨x,t,rfl,rfl⟩
    · rcases keyIs_shape hv with ⟨j,u,rfl,rfl⟩ | ⟨y,u,rfl,rfl⟩
      · rw [key_ll] at h; exact wpAny_eqBool_int h
      · rw [key_lr] at h; exact SeqAt.EqAt.int_str i t y u _ _ _ _ h
    · rcases keyIs_shape hv with ⟨j,u,rfl,rfl⟩ | ⟨y,u,rfl,rfl⟩
      · rw [key_rl] at h; exact SeqAt.EqAt.str_int x t j u _ _ _ _ h
      · rw [key_rr] at h; exact wpAny_eqBool_str h
  «strs»:=fun k x t v h=>by
    rcases keyIs_shape h with ⟨i,u,rfl,e⟩ | ⟨y,u,rfl,e⟩
    · exact nomatch e
    · injection e with e1 _
      subst e1
      cases v <;> rfl
end L2
namespace L2
open PySem PySem.Spec PyProof.Rows
inductive V where
  | non | bl (b : Bool) | int (i : Int) | str (x : Str) | byt (b : Array UInt8) | flt (b : UInt64) | ref (a : Addr) | ty (n : String)
  deriving DecidableEq
def RelV : V -> Value -> Prop
  | .non,u=>u = Value.none
  | .bl b,u=>u = Value.bool b
  | .int i,u=>∃ t,u = Value.int i t
  | .str x,u=>∃ t,u = Value.str x t
  | .byt b,u=>∃ t,u = Value.bytes b t
  | .flt b,u=>∃ t,u = Value.float b t
  | .ref a,u=>u = Value.ref a
  | .ty n,u=>u = Value.type n
abbrev Vals : List V -> List Value -> Prop:=Paired RelV
theorem Vals.length {xs : List V} {us : List Value} (r : Vals xs us) : xs.length = us.length:=Paired.length r
theorem Vals.get : ∀ {xs : List V} {us : List Value} {i : Nat} {x : V},Vals xs us -> xs[i]? = some x -> ∃ u,us[i]? = some u /\ RelV x u
  | _,_,_,_,.nil,e=>by simp at e
  | _,_,0,_,.cons r _,e=>by simp at e; subst e; exact ⟨_,rfl,r⟩
  | _,_,i + 1,x,.cons _ t,e=>by
    obtain ⟨u,h1,h2⟩:=Vals.get (i:=i) (x:=x) t (by simpa using e)
    exact ⟨u,by simpa using h1,h2⟩
theorem Vals.set {x : V} {u : Value} (r : RelV x u) : ∀ {xs : List V} {us : List Value} (i : Nat),Vals xs us -> Vals (xs.set i x) (us.set i u)
  | _,_,_,.nil=>.nil
  | _,_,0,.cons _ t=>.cons r t
  | _,_,i + 1,.cons q t=>.cons q (Vals.set r i t)
theorem Vals.append : ∀ {xs ys : List V} {us ws : List Value},Vals xs us -> Vals ys ws -> Vals (xs ++ ys) (us ++ ws)
  | _,_,_,_,.nil,s=>s
  | _,_,_,_,.cons r t,s=>.cons r (Vals.append t s)
theorem Vals.take : ∀ {xs : List V} {us : List Value} (n : Nat),Vals xs us -> Vals (xs.take n) (us.take n)
  | _,_,0,_=>.nil
  | _,_,_ + 1,.nil=>.nil
  | _,_,n + 1,.cons r t=>.cons r (Vals.take n t)
theorem Vals.drop : ∀ {xs : List V} {us : List Value} (n : Nat),Vals xs us -> Vals (xs.drop n) (us.drop n)
  | _,_,0,r=>r
  | _,_,_ + 1,.nil=>.nil
  | _,_,n + 1,.cons _ t=>Vals.drop n t
def RelO : Option V -> Option Value -> Prop
  | some v,some u=>RelV v u
  | none,none=>True
  | _,_=>False
def KV {κ : Type} : List (κ × V) -> List (κ × Value) -> Prop:=Paired fun (p : κ × V) (q : κ × Value)=>p.1 = q.1 /\ RelV p.2 q.2
def kV : Key -> V
  | .inl i=>.int i
  | .inr x=>.str x
inductive HO where
  | lst (xs : List V)
  | tup (xs : List V)
  | dK (kvs : List (Key × V)) | dT (kvs : List (List Key × V))
  | set (S : Int -> Bool) (n : Nat)
  | ins (C dx : Addr) (fs : List (Str × V))
  | own (x : Addr)
  | xd (fs : List (Str × V))
  | met (f x : Addr)
  | rng (lo hi : Int)
  | frz (o : Obj) (u : HO)
  | tbl (ps : Array Value)
  | ext (φ : Heap -> Prop)
abbrev Hp:=Addr -> Option HO
def upd (H : Hp) (a : Addr) (o : HO) : Hp:=fun b=>if b = a then some o else H b
theorem upd_same {H : Hp} {a : Addr} {o : HO} : upd H a o a = some o:=by unfold upd; rw [if_pos rfl]
theorem upd_ne {H : Hp} {a b : Addr} {o : HO} (h : b ≠ a) : upd H a o b = H b:=by unfold upd; rw [if_neg h]
theorem ne_of_none {H : Hp} {a b : Addr} {o : HO} (h : H a = some o) (h' : H b = none) : a ≠ b:=by
  intro e; subst e; rw [h] at h'; cases h'
section
variable (P : Program) (w : World)
def ObjOk (H : Hp) (h : Heap) (a : Addr) : HO -> Prop
  | .lst xs=>xs.length <= sizeLine /\ ∃ (its : List Value) (n : Nat),Vals xs its /\ h.get? a = some { cls:=.type "list",data:=.seq its.toArray n }
  | .tup xs=>xs.length <= sizeLine /\ ∃ its : List Value,Vals xs its /\ IsTup h a its.toArray
  | .dK kvs=>kvs.length <= sizeLine /\ (a == sysModules) = false /\ ∃ vs,KV kvs vs /\ h.DictOf (mixKind P w) a vs
  | .dT kvs=>kvs.length <= sizeLine /\ (a == sysModules) = false /\ ∃ xs : List (List Key × Addr × Value),
      Paired (fun (p : List Key × V) (q : List Key × Addr × Value)=>p.1 = q.1 /\ H q.2.1 = some (.tup (p.1.map kV)) /\ RelV p.2 q.2.2) kvs xs /\
      ∃ o es ep,h.get? a = some o /\ o.ExactDict /\ o.data = .dict es ep /\ es.toList = xs.map (entryOfKey (tupleKind (mixKind P w))) /\ (xs.map (·.1)).Nodup
  | .set S n=>h.SetOf (intKind P w) a S n
  | .ins C dx fs=>H dx = some (.own a) /\ fs.length <= 1000 /\ dx ≠ a /\ h.get? a = some (PySem.W.instObj C dx) /\
      ∃ mA,h.Ns1 dx mA /\ (∀ f,RelO (fs.lookup f) (mA f)) /\ PySem.Within mA (fs.map (·.1))
  | .own _=>∃ o,h.get? a = some o
  | .xd fs=>∃ mA,h.Ns1 a mA /\ ∀ f,RelO (fs.lookup f) (mA f)
  | .rng lo hi=>∃ t u v,h.get? a = some { cls:=.type "range",data:=.fields #[.int lo t,.int hi u,.int 1 v] }
  | .frz o u=>h.get? a = some o /\ ObjOk H h a u
  | .tbl ps=>h.get? a = some { cls:=.none,data:=.fields ps }
  | .met f x=>h.get? a = some (PySem.W.methodObj (.ref f) (.ref x))
  | .ext φ=>φ h /\ (∃ o,h.get? a = some o) /\ ∀ h1 h2 : Heap,φ h1 -> (∀ o,h1.get? a = some o -> h2.get? a = some o) -> φ h2
def HOk (H : Hp) (h : Heap) : Prop:=∀ a o,H a = some o -> ObjOk P w H h a o
end
section
variable {P : Program} {w : World} {H H' : Hp} {h h' : Heap} {a : Addr} {o : HO}
theorem ObjOk.lt (x : ObjOk P w H h a o) : a < h.objs.size:=by
  cases o with
  | lst xs=>obtain ⟨_,_,_,_,e⟩:=x; exact Heap.lt_size e
  | tup xs=>obtain ⟨_,_,_,p⟩:=x; exact p.lt
  | dK kvs=>obtain ⟨_,_,_,_,o,_,_,e,_⟩:=x; exact Heap.lt_size e
  | dT kvs=>obtain ⟨_,_,_,_,o,_,_,e,_⟩:=x; exact Heap.lt_size e
  | set S n=>obtain ⟨o,_,_,_,e,_⟩:=x; exact Heap.lt_size e
  | ins C dx fs=>obtain ⟨_,_,_,e,_⟩:=x; exact Heap.lt_size e
  | own y=>obtain ⟨_,e⟩:=x; exact Heap.lt_size e
  | xd fs=>obtain ⟨_,⟨_,_,_,e,_⟩,_⟩:=x; exact Heap.lt_size e
  | rng lo hi=>obtain ⟨_,_,_,e⟩:=x; exact Heap.lt_size e
  | frz ob u=>obtain ⟨e,_⟩:=x; exact Heap.lt_size e
  | tbl ps=>exact Heap.lt_size (show h.get? a = some _ from x)
  | met f y=>exact Heap.lt_size (show h.get? a = some _ from x)
  | ext φ=>obtain ⟨_,⟨_,e⟩,_⟩:=x; exact Heap.lt_size e
theorem Paired.mapP {α β : Type} {F G : α -> β -> Prop} : ∀ {l₁ : List α} {l₂ : List β},Paired F l₁ l₂ -> (∀ a b,F a b -> G a b) -> Paired G l₁ l₂
  | _,_,.nil,_=>.nil
  | _,_,.cons r t,f=>.cons (f _ _ r) (Paired.mapP t f)
theorem ObjOk.stay (x : ObjOk P w H h a o) (k : ∀ b u,(b = a \/ H b = some (.own a)) -> h.get? b = some u -> h'.get? b = some u)
    (ho : ∀ b,H b = some (.own a) -> H' b = some (.own a)) (ht : ∀ b xs,H b = some (.tup xs) -> H' b = some (.tup xs)) : ObjOk P w H' h' a o:=by
  induction o with
  | lst xs=>obtain ⟨z,its,n,r,e⟩:=x; exact ⟨z,its,n,r,k _ _ (.inl rfl) e⟩
  | tup xs=>obtain ⟨z,its,r,ob,e,c⟩:=x; exact ⟨z,its,r,ob,k _ _ (.inl rfl) e,c⟩
  | dK kvs=>obtain ⟨z,y,vs,r,ob,es,ep,e,c⟩:=x; exact ⟨z,y,vs,r,ob,es,ep,k _ _ (.inl rfl) e,c⟩
  | dT kvs=>
    obtain ⟨z,y,xs,r,ob,es,ep,e,c⟩:=x
    exact ⟨z,y,xs,Paired.mapP r fun p q z=>⟨z.1,ht _ _ z.2.1,z.2.2⟩,ob,es,ep,k _ _ (.inl rfl) e,c⟩
  | set S n=>obtain ⟨ob,es,ep,t,e,c⟩:=x; exact ⟨ob,es,ep,t,k _ _ (.inl rfl) e,c⟩
  | ins C dx fs=>
    obtain ⟨d,z,ne,e,mA,⟨od,es,ep,e2,c⟩,r⟩:=x
    exact ⟨ho _ d,z,ne,k _ _ (.inl rfl) e,mA,⟨od,es,ep,k _ _ (.inr d) e2,c⟩,r⟩
  | own y=>obtain ⟨ob,e⟩:=x; exact ⟨ob,k _ _ (.inl rfl) e⟩
  | xd fs=>obtain ⟨mA,⟨od,es,ep,e,c⟩,r⟩:=x; exact ⟨mA,⟨od,es,ep,k _ _ (.inl rfl) e,c⟩,r⟩
  | rng lo hi=>obtain ⟨t,u,v,e⟩:=x; exact ⟨t,u,v,k _ _ (.inl rfl) e⟩
  | frz ob u ih=>obtain ⟨e,q⟩:=x; exact ⟨k _ _ (.inl rfl) e,ih q⟩
  | tbl ps=>
    have e : h.get? a = some { cls:=.none,data:=.fields ps }:=x
    show h'.get? a = some { cls:=.none,data:=.fields ps }
    exact k a _ (.inl rfl) e
  | met f y=>
    have e : h.get? a = some (PySem.W.methodObj (.ref f) (.ref y)):=x
    show h'.get? a = some (PySem.W.methodObj (.ref f) (.ref y))
    exact k a _ (.inl rfl) e
  | ext φ=>obtain ⟨p,⟨o,e⟩,st⟩:=x; exact ⟨st _ _ p fun o q=>k _ _ (.inl rfl) q,⟨o,k _ _ (.inl rfl) e⟩,st⟩
theorem HOk.lt (x : HOk P w H h) (e : H a = some o) : a < h.objs.size:=(x a o e).lt
theorem HOk.fresh (x : HOk P w H h) (e : h.objs.size <= a) : H a = none:=by
  cases q : H a with
  | none=>rfl
  | some u=>exact absurd (Nat.lt_of_lt_of_le (x.lt q) e) (Nat.lt_irrefl _)
theorem HOk.kept (x : HOk P w H h) (k : ∀ b u,h.get? b = some u -> h'.get? b = some u) : HOk P w H h':=fun a o e=>
  (x a o e).stay (fun b u _ q=>k b u q) (fun _ q=>q) fun _ _ q=>q
theorem HOk.laid (x : HOk P w H h) (k : ∀ b u,h.get? b = some u -> h'.get? b = some u) (hp : h.objs.size <= a) (new : ObjOk P w (upd H a o) h' a o) : HOk P w (upd H a o) h':=fun b u e=>by
  have hn:=x.fresh hp
  by_cases hb : b = a
  · subst hb; rw [upd_same] at e; cases e; exact new
  · rw [upd_ne hb] at e
    exact (x b u e).stay (fun c v _ q=>k c v q) (fun c q=>by rw [upd_ne (ne_of_none q hn)]; exact q) fun c xs q=>by rw [upd_ne (ne_of_none q hn)]; exact q
end
def Rd (H : Hp) (a : Addr) (u : HO) : Prop:=H a = some u \/ ∃ o,H a = some (.frz o u)
theorem Rd.ok {P : Program} {w : World} {H : Hp} {h : Heap} {a : Addr} {u : HO} (r : Rd H a u) (x : HOk P w H h) : ObjOk P w H h a u:=by
  rcases r with r | ⟨o,r⟩
  · exact x a u r
  · obtain ⟨_,q⟩:=x a _ r
    exact q
def Mut : Option HO -> Prop
  | some (.lst _)=>True
  | some (.dK _)=>True
  | some (.dT _)=>True
  | some (.set _ _)=>True
  | some (.ins _ _ _)=>True
  | some (.ext _)=>True
  | _=>False
section
variable {P : Program} {w : World} {H : Hp} {h h' : Heap} {x e : Addr} {o' : HO}
theorem HOk.write (ok : HOk P w H h) (mu : Mut (H x)) (he : e = x \/ H e = some (.own x)) (k : ∀ b u,b ≠ e -> h.get? b = some u -> h'.get? b = some u) (heo : ∃ u,h'.get? e = some u)
    (new : ObjOk P w (upd H x o') h' x o') : HOk P w (upd H x o') h':=fun b u q=>by
  have nown : ∀ c y,H c = some (.own y) -> c ≠ x:=fun c y r z=>by subst z; rw [r] at mu; exact mu
  have ntup : ∀ c xs,H c = some (.tup xs) -> c ≠ x:=fun c xs r z=>by subst z; rw [r] at mu; exact mu
  by_cases hb : b = x
  · subst hb; rw [upd_same] at q; cases q; exact new
  · rw [upd_ne hb] at q
    by_cases hbe : b = e
    · have q' : H b = some (.own x):=by
        rcases he with z | z
        · exact absurd (hbe.trans z) hb
        · rw [hbe]; exact z
      rw [q] at q'; cases q'
      obtain ⟨v,hv⟩:=heo
      exact ⟨v,by rw [hbe]; exact hv⟩
    · refine (ok b u q).stay (fun c v hc r=>k c v ?_ r) (fun c r=>by rw [upd_ne (nown c b r)]; exact r) fun c xs r=>by rw [upd_ne (ntup c xs r)]; exact r
      rcases hc with rfl | hc
      · exact hbe
      · rintro rfl
        rcases he with z | z
        · exact nown c b hc z
        · rw [hc] at z; cases z; exact hb rfl
end
structure Un (fs ex : List Addr) (H H' : Hp) (h h' : Heap) : Prop where
  keep : ∀ b o,h.get? b = some o -> H b = none -> b ∉ fs -> b ∉ ex -> h'.get? b = some o
  slot : ∀ b o,h.get? b = some o -> H b = none -> b ∈ fs -> b ∉ ex -> ∃ sl,h'.get? b = some { o with slots:=sl }
  free : ∀ b o,h.get? b = some o -> H b = none -> b ∉ ex -> H' b = none
  there : ∀ b o,h.get? b = some o -> b ∉ ex -> ∃ o',h'.get? b = some o'
  tups : ∀ b xs,H b = some (.tup xs) -> H' b = some (.tup xs)
  frzs : ∀ b o u,H b = some (.frz o u) -> H' b = some (.frz o u)
  tbls : ∀ b ps,H b = some (.tbl ps) -> ∃ more,H' b = some (.tbl (ps ++ more))
section
variable {fs fs' ex ex' : List Addr} {H H1 H2 : Hp} {h h1 h2 h' : Heap} {a x e : Addr} {o : HO}
theorem Un.any (u : Un fs ex H H1 h h1) {b : Addr} {ob : Obj} (q : h.get? b = some ob) (n : H b = none) (hx : b ∉ ex) : ∃ sl,h1.get? b = some { ob with slots:=sl }:=by
  by_cases hb : b ∈ fs
  · exact u.slot b ob q n hb hx
  · exact ⟨ob.slots,u.keep b ob q n hb hx⟩
theorem Un.kept (k : ∀ b u,h.get? b = some u -> h'.get? b = some u) : Un fs ex H H h h':=
  ⟨fun b ob q _ _ _=>k b ob q,fun b ob q _ _ _=>⟨ob.slots,k b ob q⟩,fun _ _ _ n _=>n,fun b ob q _=>⟨ob,k b ob q⟩,fun _ _ q=>q,fun _ _ _ q=>q,fun _ ps q=>⟨#[],by rw [q]; simp⟩⟩
theorem Un.refl : Un fs ex H H h h:=Un.kept fun _ _ q=>q
theorem Un.laid (k : ∀ b u,h.get? b = some u -> h'.get? b = some u) (hp : h.objs.size <= a) (hn : H a = none) : Un fs ex H (upd H a o) h h' where
  keep:=fun b u q _ _ _=>k b u q
  slot:=fun b u q _ _ _=>⟨u.slots,k b u q⟩
  free:=fun b u q n _=>by rw [upd_ne (Nat.ne_of_lt (Nat.lt_of_lt_of_le (Heap.lt_size q) hp))]; exact n
  there:=fun b u q _=>⟨u,k b u q⟩
  tups:=fun b xs q=>by rw [upd_ne (ne_of_none q hn)]; exact q
  frzs:=fun b u xs q=>by rw [upd_ne (ne_of_none q hn)]; exact q
  tbls:=fun b ps q=>⟨#[],by rw [upd_ne (ne_of_none q hn),q]; simp⟩
theorem Un.write (mu : Mut (H x)) (he : e = x \/ H e = some (.own x)) (k : ∀ b u,b ≠ e -> h.get? b = some u -> h'.get? b = some u) (heo : ∃ u,h'.get? e = some u) : Un fs ex H (upd H x o) h h':=by
  have hx : ∀ b,H b = none -> b ≠ x:=fun b n z=>by subst z; rw [n] at mu; exact mu
  have hb : ∀ b,H b = none -> b ≠ e:=fun b n z=>by
    subst z
    rcases he with r | r
    · exact hx b n r
    · rw [n] at r; cases r
  have hm : ∀ b u,H b = some u -> ¬ Mut (some u) -> b ≠ x:=fun b u q nm z=>by subst z; rw [q] at mu; exact nm mu
  refine ⟨fun b u q n _ _=>k b u (hb b n) q,fun b u q n _ _=>⟨u.slots,k b u (hb b n) q⟩,fun b u q n _=>by rw [upd_ne (hx b n)]; exact n,fun b u q _=>?_,
    fun b xs q=>by rw [upd_ne (hm b _ q fun z=>z)]; exact q,fun b u xs q=>by rw [upd_ne (hm b _ q fun z=>z)]; exact q,fun b ps q=>⟨#[],by rw [upd_ne (hm b _ q fun z=>z),q]; simp⟩⟩
  by_cases hbe : b = e
  · subst hbe; exact heo
  · exact ⟨u,k b u hbe q⟩
end
def trk (h : Heap) (H : Hp) : List Addr:=(List.range h.objs.size).filter fun a=>(H a).isSome
def hidT (h : Heap) (H : Hp) : Heap:=PySem.W.hideAll h (trk h H)
theorem hidT_size (h : Heap) (H : Hp) : (hidT h H).objs.size = h.objs.size:=PySem.W.hideAll_size _ _
theorem hidT_get {h : Heap} {H : Hp} {b : Addr} {o : Obj} (e : h.get? b = some o) (n : H b = none) : (hidT h H).get? b = some o:=
  PySem.W.hideAll_get _ e fun hm=>by
    have q : (H b).isSome = true:=(List.mem_filter.mp hm).2
    rw [n] at q; simp at q
theorem of_hidT {h : Heap} {H : Hp} {b : Addr} {o : Obj} (e : (hidT h H).get? b = some o) : h.get? b = some o /\ H b = none:=by
  have e' : h.get? b = some o:=PySem.W.of_hideAll (trk h H) e
  refine ⟨e',?_⟩
  cases q : H b with
  | none=>rfl
  | some x=>
    have hm : b ∈ trk h H:=List.mem_filter.mpr ⟨List.mem_range.mpr (Heap.lt_size e'),by simp [q]⟩
    have z : (hidT h H).get? b = none:=PySem.W.hideAll_none (trk h H) hm
    rw [z] at e; cases e
def allNews (g h : Heap) (L : Addr) : List (Addr × Obj):=(List.range h.objs.size).filterMap fun a=>if a = L \/ (g.get? a).isSome = true then none else (h.get? a).map fun o=>(a,o)
def rest (g h : Heap) (L d : Addr) : List (Addr × Obj):=(allNews g h L).filter fun p=>decide (p.1 ≠ d)
end L2
namespace L2
open PySem PySem.Spec PyProof.Rows
structure Mod (K : PySem.W.Frag) (mg : Str -> Option Value) (base : Heap) : Prop where
  kin : K.In base
  glob : base.Ns mainGlobals mg
  blt : ∃ mb,base.Ns builtinsNs mb /\ ∀ x : Str,x ≠ "__name__" -> mb x = bootBuiltins x
  nolimit : base.NoLimit
structure Cx where
  prog : Program
  w : World
  K : PySem.W.Frag
  mg : Str -> Option Value
  base : Heap
  A : Around
  N : List Str
  s₀ : Shared
  H₀ : Hp
  env : Env
  outer : List Env
  stack : List Env
  ex : List Addr
  fn : Str -> Bool
  calm : Bool
  pn : List (Addr × Obj)
  xe : Value -> Shared -> Prop
def frs (l : List Env) : List Addr:=l.filterMap (·.frame)
abbrev Cx.fs (X : Cx) : List Addr:=frs X.outer
def Vis (sc : Scope) (x : Str) : Prop:=sc.names.lookup x = some .local \/ sc.names.lookup x = some .cell \/ sc.names.lookup x = some .free
def Loc (sc : Scope) (x : Str) : Prop:=sc.names.lookup x = some .local \/ sc.names.lookup x = some .cell
def Look (env : Env) (h : Heap) (m : Str -> Option Value) (x : Str) (u : Value) : Prop:=
  (env.kindOf x = some .local /\ m x = some u) \/ ((env.kindOf x = some .cell \/ env.kindOf x = some .free) /\ ∃ c,env.cells.lookup x = some c /\ h.IsCell c (some u))
structure Cx.Ok (X : Cx) : Prop where
  mod : Mod X.K X.mg X.base
  kind : X.env.scope.kind = .function
  glob : X.env.globals = mainGlobals
  blt : X.env.builtins = builtinsNs
  above : X.s₀.heap.objs.size <= X.env.locals
  inj : ∀ x y c,X.env.cells.lookup x = some c -> X.env.cells.lookup y = some c -> x = y
  has : ∀ x,(X.env.kindOf x = some .cell \/ X.env.kindOf x = some .free) -> ∃ c,X.env.cells.lookup x = some c
  cab : ∀ x c,X.fn x = true -> X.env.cells.lookup x = some c -> X.s₀.heap.objs.size <= c
  hd : X.calm = true -> X.A.handled = none
  frames : X.A.frames = some X.stack
  stk : X.stack = X.outer \/ (X.stack = X.env :: X.outer /\ X.env.frame = some X.env.locals)
  exf : ∀ b ∈ X.ex,b ≠ X.env.locals /\ ∀ x c,X.env.cells.lookup x = some c -> c ≠ b
  bs : ∀ b o,X.base.get? b = some o -> X.s₀.heap.get? b = some o /\ X.H₀ b = none
  bsz : X.base.objs.size <= X.s₀.heap.objs.size
  noex : ∀ b o,X.base.get? b = some o -> b ∉ X.ex
  exfs : ∀ b ∈ X.ex,b ∉ X.fs
  funs : X.s₀.heap.FunFrames X.base X.outer
  frf : ∀ b ∈ X.fs,X.H₀ b = none
structure Inv (X : Cx) (pins : List (Addr × Obj)) (σ : List (Option V)) (H : Hp) (s : Shared) : Prop where
  ok : X.Ok
  os : s.os = X.s₀.os
  bare : AllBare s.gens
  base : Un X.fs X.ex X.H₀ H X.s₀.heap s.heap
  loc : ∃ m,s.heap.Ns X.env.locals m /\ ∀ (i : Nat) (x : Str) (v : V),X.N[i]? = some x -> σ[i]? = some (some v) -> Vis X.env.scope x -> ∃ u,RelV v u /\ Look X.env s.heap m x u
  cell : ∀ x c,X.env.cells.lookup x = some c -> ∃ v,s.heap.IsCell c v
  free : H X.env.locals = none
  freeC : ∀ x c,X.env.cells.lookup x = some c -> H c = none
  pin : ∀ p ∈ X.pn ++ pins,s.heap.get? p.1 = some p.2 /\ H p.1 = none /\ p.1 ≠ X.env.locals /\ p.1 ∉ X.fs /\ ∀ v,p.2.data ≠ .cell v
  hok : HOk X.prog X.w H s.heap
  len : σ.length = X.N.length
section
variable {X : Cx} {pins : List (Addr × Obj)} {σ : List (Option V)} {H H' : Hp} {s : Shared} {h' : Heap}
theorem Cx.Ok.nofr (ok : X.Ok) {b : Addr} {o : Obj} (e : X.base.get? b = some o) : b ∉ X.fs:=fun hb=>by
  have:=(ok.funs.mem hb).1
  rw [e] at this; cases this
theorem Inv.bs (I : Inv X pins σ H s) : ∀ b o,X.base.get? b = some o -> s.heap.get? b = some o /\ H b = none:=fun b o e=>
  ⟨I.base.keep b o (I.ok.bs b o e).1 (I.ok.bs b o e).2 (I.ok.nofr e) (I.ok.noex b o e),I.base.free b o (I.ok.bs b o e).1 (I.ok.bs b o e).2 (I.ok.noex b o e)⟩
theorem Inv.bk (I : Inv X pins σ H s) : ∀ b o,X.base.get? b = some o -> s.heap.get? b = some o:=fun b o e=>(I.bs b o e).1
theorem Inv.mod (I : Inv X pins σ H s) : Mod X.K X.mg X.base:=I.ok.mod
theorem Inv.kIn (I : Inv X pins σ H s) : X.K.In s.heap:=I.ok.mod.kin.keeps I.bk
theorem Inv.lt (I : Inv X pins σ H s) : X.env.locals < s.heap.objs.size:=let ⟨_,hn,_⟩:=I.loc; hn.lt
theorem Inv.sz (I : Inv X pins σ H s) : X.s₀.heap.objs.size <= s.heap.objs.size:=Nat.le_trans I.ok.above (Nat.le_of_lt I.lt)
theorem Inv.nofs (I : Inv X pins σ H s) {a : Addr} (h : s.heap.objs.size <= a) : a ∉ X.fs:=fun hb=>by
  obtain ⟨_,o,ho,_⟩:=I.ok.funs.mem hb
  exact absurd (Nat.lt_of_lt_of_le (Heap.lt_size ho) (Nat.le_trans I.sz h)) (Nat.lt_irrefl _)
theorem Inv.cne (I : Inv X pins σ H s) : ∀ x c,X.env.cells.lookup x = some c -> c ≠ X.env.locals:=fun x c e z=>by
  obtain ⟨v,o,ho,hd⟩:=I.cell x c e
  obtain ⟨m,⟨o',es,ep,ho',hd',_⟩,_⟩:=I.loc
  rw [z,ho'] at ho; cases ho; rw [hd'] at hd; cases hd
theorem Inv.funs (I : Inv X pins σ H s) : s.heap.FunFrames X.base X.outer:=by
  have all : ∀ (l : List Env),(∀ b ∈ frs l,b ∈ X.fs) -> X.s₀.heap.FunFrames X.base l -> s.heap.FunFrames X.base l:=by
    intro l
    induction l with
    | nil=>intro _ _; trivial
    | cons env r ih=>
      intro hs hl
      obtain ⟨hk,⟨L,o,hf,hn,ho,hd⟩,hr⟩:=hl
      have hL : L ∈ X.fs:=hs L (by unfold frs; rw [List.filterMap_cons,hf]; exact List.mem_cons_self)
      obtain ⟨sl,e⟩:=I.base.slot L o ho (I.ok.frf L hL) hL fun z=>I.ok.exfs L z hL
      exact ⟨hk,⟨L,_,hf,hn,e,hd⟩,ih (fun b hb=>hs b (by unfold frs; rw [List.filterMap_cons,hf]; exact List.mem_cons_of_mem _ hb)) hr⟩
  exact all X.outer (fun _ hb=>hb) I.ok.funs
theorem Inv.stack (I : Inv X pins σ H s) : s.heap.FunFrames X.base X.stack:=by
  rcases I.ok.stk with e | ⟨e,hf⟩
  · rw [e]; exact I.funs
  · rw [e]
    obtain ⟨m,hn,_⟩:=I.loc
    refine .cons (by rw [I.ok.kind]; decide) hf hn ?_ I.funs
    exact Heap.get?_none_of_le (Nat.le_trans I.ok.bsz I.ok.above)
theorem Inv.stkSub (I : Inv X pins σ H s) : ∀ b ∈ frs X.stack,b ∈ X.env.locals :: X.fs:=fun b hb=>by
  rcases I.ok.stk with e | ⟨e,hf⟩
  · rw [e] at hb; exact List.mem_cons_of_mem _ hb
  · rw [e] at hb
    unfold frs at hb
    rw [List.filterMap_cons,hf] at hb
    exact hb
theorem Inv.stkFree (I : Inv X pins σ H s) : ∀ b ∈ frs X.stack,H b = none:=fun b hb=>by
  rcases List.mem_cons.mp (I.stkSub b hb) with e | hb
  · rw [e]; exact I.free
  · obtain ⟨_,o,ho,_⟩:=I.ok.funs.mem hb
    exact I.base.free b o ho (I.ok.frf b hb) fun z=>I.ok.exfs b z hb
theorem Inv.step {g' : Array GenState} {t' : Nat} {d' : Drawn} {ch : List Addr} (I : Inv X pins σ H s)
    (hch : ∀ b ∈ ch,(b ∈ X.ex \/ X.s₀.heap.objs.size <= b) /\ b ≠ X.env.locals /\ (∀ x c,X.env.cells.lookup x = some c -> c ≠ b) /\ ∀ p ∈ X.pn ++ pins,p.1 ≠ b)
    (keep : ∀ b o,b ≠ X.env.locals -> b ∉ X.fs -> b ∉ ch -> s.heap.get? b = some o -> H b = none -> h'.get? b = some o)
    (slot : ∀ b o,b ≠ X.env.locals -> b ∈ X.fs -> b ∉ ch -> s.heap.get? b = some o -> H b = none -> ∃ sl,h'.get? b = some { o with slots:=sl }) (free : ∀ b o,b ∉ ch -> s.heap.get? b = some o -> H b = none -> H' b = none)
    (there : ∀ b o,b ∉ ch -> s.heap.get? b = some o -> ∃ o',h'.get? b = some o')
    (tups : ∀ b xs,H b = some (.tup xs) -> H' b = some (.tup xs)) (frzs : ∀ b o u,H b = some (.frz o u) -> H' b = some (.frz o u)) (tbls : ∀ b ps,H b = some (.tbl ps) -> ∃ more,H' b = some (.tbl (ps ++ more)))
    (ns : ∀ m,s.heap.Ns X.env.locals m -> h'.Ns X.env.locals m) (hok : HOk X.prog X.w H' h') (hg : AllBare g') :
    Inv X pins σ H' { s with heap:=h',gens:=g',drawn:=d',toks:=t' }:=by
  have neL : ∀ b o,X.s₀.heap.get? b = some o -> b ≠ X.env.locals:=fun b o e=>Nat.ne_of_lt (Nat.lt_of_lt_of_le (Heap.lt_size e) I.ok.above)
  have neC : ∀ b o,X.s₀.heap.get? b = some o -> b ∉ X.ex -> b ∉ ch:=fun b o e hx hb=>by
    rcases (hch b hb).1 with z | z
    · exact hx z
    · exact absurd (Nat.lt_of_lt_of_le (Heap.lt_size e) z) (Nat.lt_irrefl _)
  have cellK : ∀ x c,X.env.cells.lookup x = some c -> ∀ v,s.heap.IsCell c v -> h'.IsCell c v:=fun x c e v ⟨o,ho,hd⟩=>by
    have nch : c ∉ ch:=fun z=>(hch c z).2.2.1 x c e rfl
    by_cases hc : c ∈ X.fs
    · obtain ⟨sl,q⟩:=slot c o (I.cne x c e) hc nch ho (I.freeC x c e)
      exact ⟨_,q,hd⟩
    · exact ⟨o,keep c o (I.cne x c e) hc nch ho (I.freeC x c e),hd⟩
  refine ⟨I.ok,I.os,hg,⟨fun b o e n hb hx=>?_,fun b o e n hb hx=>?_,fun b o e n hx=>?_,fun b o e hx=>?_,fun b xs e=>tups b xs (I.base.tups b xs e),fun b o xs e=>frzs b o xs (I.base.frzs b o xs e),fun b ps e=>?_⟩,?_,fun x c e=>?_,?_,fun x c e=>?_,fun p hp=>?_,hok,I.len⟩
  · exact keep b o (neL b o e) hb (neC b o e hx) (I.base.keep b o e n hb hx) (I.base.free b o e n hx)
  · obtain ⟨sl,e1⟩:=I.base.slot b o e n hb hx
    obtain ⟨sl',e2⟩:=slot b _ (neL b o e) hb (neC b o e hx) e1 (I.base.free b o e n hx)
    exact ⟨sl',e2⟩
  · obtain ⟨o',e1⟩:=I.base.there b o e hx
    exact free b o' (neC b o e hx) e1 (I.base.free b o e n hx)
  · obtain ⟨o',e1⟩:=I.base.there b o e hx
    exact there b o' (neC b o e hx) e1
  · obtain ⟨m1,e1⟩:=I.base.tbls b ps e
    obtain ⟨m2,e2⟩:=tbls b _ e1
    exact ⟨m1 ++ m2,by rw [e2,Array.append_assoc]⟩
  · obtain ⟨m,hn,hl⟩:=I.loc
    refine ⟨m,ns m hn,fun i x v e1 e2 e3=>?_⟩
    obtain ⟨u,r,l⟩:=hl i x v e1 e2 e3
    refine ⟨u,r,?_⟩
    rcases l with l | ⟨k,c,e,z⟩
    · exact .inl l
    · exact .inr ⟨k,c,e,cellK x c e _ z⟩
  · obtain ⟨v,z⟩:=I.cell x c e
    exact ⟨v,cellK x c e v z⟩
  · obtain ⟨m,⟨o,_,_,ho,_⟩,_⟩:=I.loc
    exact free _ o (fun z=>(hch _ z).2.1 rfl) ho I.free
  · obtain ⟨v,o,ho,hd⟩:=I.cell x c e
    exact free c o (fun z=>(hch c z).2.2.1 x c e rfl) ho (I.freeC x c e)
  · obtain ⟨e,n,ne,nf,d⟩:=I.pin p hp
    have nch : p.1 ∉ ch:=fun z=>(hch p.1 z).2.2.2 p hp rfl
    exact ⟨keep p.1 p.2 ne nf nch e n,free p.1 p.2 nch e n,ne,nf,d⟩
theorem Inv.un {t' : Nat} (I : Inv X pins σ H s) (u : Un X.fs [] H H' s.heap h') (hok : HOk X.prog X.w H' h') : Inv X pins σ H' { s with heap:=h',toks:=t' }:=by
  obtain ⟨m,⟨o,es,ep,ho,r⟩,_⟩:=id I.loc
  obtain ⟨sl,hL⟩:=u.any ho I.free (by simp)
  exact I.step (g':=s.gens) (d':=s.drawn) (ch:=[]) (fun _ z=>nomatch z) (fun b o _ hb _ e n=>u.keep b o e n hb (by simp)) (fun b o _ hb _ e n=>u.slot b o e n hb (by simp)) (fun b o _ e n=>u.free b o e n (by simp)) (fun b o _ e=>u.there b o e (by simp)) u.tups u.frzs u.tbls (fun m' hm=>by
    obtain ⟨o',es',ep',ho',r'⟩:=hm
    rw [ho] at ho'; cases ho'
    exact ⟨_,es',ep',hL,r'⟩) hok I.bare
theorem Inv.call {g' : Array GenState} {t' : Nat} {d' : Drawn} {ch : List Addr} (I : Inv X pins σ H s) (u : Un (frs X.stack) ch H H' s.heap h') (hok : HOk X.prog X.w H' h') (hg : AllBare g')
    (hch : ∀ b ∈ ch,(b ∈ X.ex \/ X.s₀.heap.objs.size <= b) /\ b ≠ X.env.locals /\ (∀ x c,X.env.cells.lookup x = some c -> c ≠ b) /\ ∀ p ∈ X.pn ++ pins,p.1 ≠ b) :
    Inv X pins σ H' { s with heap:=h',gens:=g',drawn:=d',toks:=t' }:=by
  obtain ⟨m,⟨o,es,ep,ho,r⟩,_⟩:=id I.loc
  obtain ⟨sl,hL⟩:=u.any ho I.free fun z=>(hch _ z).2.1 rfl
  exact I.step (ch:=ch) hch (fun b o hL hb hc e n=>u.keep b o e n (fun z=>(List.mem_cons.mp (I.stkSub b z)).elim hL hb) hc) (fun b o _ _ hc e n=>u.any e n hc) (fun b o hc e n=>u.free b o e n hc) (fun b o hc e=>u.there b o e hc) u.tups u.frzs u.tbls (fun m' hm=>by
    obtain ⟨o',es',ep',ho',r'⟩:=hm
    rw [ho] at ho'; cases ho'
    exact ⟨_,es',ep',hL,r'⟩) hok hg
theorem Inv.turned {t' : Nat} {it : Addr} (I : Inv X pins σ H s) (k : ∀ b o,b ≠ it -> s.heap.get? b = some o -> h'.get? b = some o) (hn : H it = none) (hL : it ≠ X.env.locals)
    (h1 : it ∈ X.ex \/ X.s₀.heap.objs.size <= it) (h2 : ∀ x c,X.env.cells.lookup x = some c -> c ≠ it) (h3 : ∀ p ∈ X.pn ++ pins,p.1 ≠ it) : Inv X pins σ H { s with heap:=h',toks:=t' }:=by
  have nit : ∀ b u,H b = some u -> b ≠ it:=fun b u e z=>by rw [z,hn] at e; cases e
  refine I.step (g':=s.gens) (d':=s.drawn) (ch:=[it]) (fun b hb=>?_) (fun b o _ _ hc e _=>k b o (fun z=>hc (by simp [z])) e) (fun b o _ _ hc e _=>⟨o.slots,k b o (fun z=>hc (by simp [z])) e⟩) (fun _ _ _ _ n=>n)
    (fun b o hc e=>⟨o,k b o (fun z=>hc (by simp [z])) e⟩) (fun _ _ e=>e) (fun _ _ _ e=>e) (fun b ps e=>⟨#[],by rw [e]; simp⟩) (fun m hm=>?_) (fun b u e=>?_) I.bare
  · have e : b = it:=by simpa using hb
    subst e
    exact ⟨h1,hL,h2,h3⟩
  · obtain ⟨o,es,ep,ho,r⟩:=hm
    exact ⟨o,es,ep,k _ o (Ne.symm hL) ho,r⟩
  · refine (I.hok b u e).stay (fun c v hc q=>k c v ?_ q) (fun _ q=>q) fun _ _ q=>q
    rcases hc with z | z
    · rw [z]; exact nit b u e
    · exact nit c _ z
theorem Inv.tok (I : Inv X pins σ H s) (t : Nat) : Inv X pins σ H { s with toks:=t }:=I.un (h':=s.heap) (t':=t) Un.refl I.hok
theorem Inv.kept {t' : Nat} (I : Inv X pins σ H s) (k : ∀ b u,s.heap.get? b = some u -> h'.get? b = some u) : Inv X pins σ H { s with heap:=h',toks:=t' }:=I.un (Un.kept k) (I.hok.kept k)
theorem Inv.laid {a : Addr} {o : HO} {t' : Nat} (I : Inv X pins σ H s) (k : ∀ b u,s.heap.get? b = some u -> h'.get? b = some u) (hp : s.heap.objs.size <= a) (new : ObjOk X.prog X.w (upd H a o) h' a o) :
    Inv X pins σ (upd H a o) { s with heap:=h',toks:=t' }:=I.un (Un.laid k hp (I.hok.fresh hp)) (I.hok.laid k hp new)
theorem Inv.write {x e : Addr} {o : HO} {t' : Nat} (I : Inv X pins σ H s) (mu : Mut (H x)) (he : e = x \/ H e = some (.own x)) (k : ∀ b u,b ≠ e -> s.heap.get? b = some u -> h'.get? b = some u) (heo : ∃ u,h'.get? e = some u)
    (new : ObjOk X.prog X.w (upd H x o) h' x o) : Inv X pins σ (upd H x o) { s with heap:=h',toks:=t' }:=I.un (Un.write mu he k heo) (I.hok.write mu he k heo new)
theorem Inv.pins_of {pins' : List (Addr × Obj)} (I : Inv X pins σ H s) (h : ∀ p ∈ pins',s.heap.get? p.1 = some p.2 /\ H p.1 = none /\ p.1 ≠ X.env.locals /\ p.1 ∉ X.fs /\ ∀ v,p.2.data ≠ .cell v) : Inv X pins' σ H s:=
  ⟨I.ok,I.os,I.bare,I.base,I.loc,I.cell,I.free,I.freeC,fun p hp=>(List.mem_append.mp hp).elim (fun z=>I.pin p (List.mem_append_left _ z)) (h p),I.hok,I.len⟩
theorem nodup_ix {N : List Str} (hN : N.Nodup) {i j : Nat} {x : Str} (a : N[i]? = some x) (b : N[j]? = some x) : i = j:=by
  obtain ⟨h1,e1⟩:=List.getElem?_eq_some_iff.mp a
  obtain ⟨h2,e2⟩:=List.getElem?_eq_some_iff.mp b
  exact (List.getElem_inj hN).mp (e1.trans e2.symm)
theorem store_ok2 {M : Model} {A : Around} {E : Value -> Shared -> Prop} {i : Nat} {x : Str} {v : V} {u : Value} {Q : Unit -> Shared -> Prop} (I : Inv X pins σ H s) (hN : X.N.Nodup) (hi : X.N[i]? = some x) (hx : Loc X.env.scope x) (r : RelV v u)
    (h : ∀ s',Inv X pins (σ.set i (some v)) H s' -> (∃ a,Heap.SameBut a s.heap s'.heap /\ (a = X.env.locals \/ X.env.cells.lookup x = some a)) -> Q () s') (hf : X.fn x = true \/ X.env.scope.names.lookup x = some .local:=by first | exact .inl rfl | exact .inr rfl | assumption) : wpAny M A (storeName X.env x u) Q E s:=by
  obtain ⟨m,hn,hl⟩:=id I.loc
  have hcls : (X.env.scope.kind == .class || (X.env.scope.kind == .module && X.env.locals != X.env.globals)) = false:=by rw [I.ok.kind]; rfl
  have hiσ : i < σ.length:=by rw [I.len]; exact (List.getElem?_eq_some_iff.mp hi).1
  have cne:=I.cne
  have tracked : ∀ {a : Addr} {h' : Heap},(∃ o,s.heap.get? a = some o /\ H a = none) -> Heap.SameBut a s.heap h' -> HOk X.prog X.w H h':=fun {a h'} ha hs b ob e=>by
    obtain ⟨_,_,hfree⟩:=ha
    refine (I.hok b ob e).stay (fun c w' hc q=>(hs.2 c ?_).trans q) (fun _ q=>q) fun _ _ q=>q
    rintro rfl
    rcases hc with rfl | hc
    · rw [hfree] at e; cases e
    · rw [hfree] at hc; cases hc
  rcases hx with hk | hk
  · refine wpAny_storeName_local hk hn (fun h' hn' hs=>?_) hcls
    obtain ⟨oL,_,_,hoL,_⟩:=id hn
    refine h _ ⟨I.ok,I.os,I.bare,⟨fun b o e n hb hx=>?_,fun b o e n hb hx=>?_,I.base.free,fun b o e hx=>?_,I.base.tups,I.base.frzs,I.base.tbls⟩,⟨_,hn',fun j y v' e1 e2 e3=>?_⟩,fun y c e=>?_,I.free,I.freeC,fun p hp=>?_,tracked ⟨oL,hoL,I.free⟩ hs,by simpa using I.len⟩ ⟨_,hs,.inl rfl⟩
    · exact (hs.2 b (Nat.ne_of_lt (Nat.lt_of_lt_of_le (Heap.lt_size e) I.ok.above))).trans (I.base.keep b o e n hb hx)
    · obtain ⟨sl,e1⟩:=I.base.slot b o e n hb hx
      exact ⟨sl,(hs.2 b (Nat.ne_of_lt (Nat.lt_of_lt_of_le (Heap.lt_size e) I.ok.above))).trans e1⟩
    · obtain ⟨o',e1⟩:=I.base.there b o e hx
      exact ⟨o',(hs.2 b (Nat.ne_of_lt (Nat.lt_of_lt_of_le (Heap.lt_size e) I.ok.above))).trans e1⟩
    · by_cases hj : j = i
      · subst hj
        rw [hi] at e1; cases e1
        rw [List.getElem?_set_self hiσ] at e2
        cases e2
        exact ⟨u,r,.inl ⟨hk,by simp⟩⟩
      · rw [List.getElem?_set_ne (Ne.symm hj)] at e2
        obtain ⟨u',r',q⟩:=hl j y v' e1 e2 e3
        refine ⟨u',r',?_⟩
        rcases q with ⟨k,e⟩ | ⟨k,c,e,z⟩
        · refine .inl ⟨k,?_⟩
          have : y ≠ x:=fun e=>hj (nodup_ix hN e1 (e ▸ hi))
          simp [this,e]
        · exact .inr ⟨k,c,e,z.sameBut hs (cne y c e)⟩
    · obtain ⟨w',z⟩:=I.cell y c e
      exact ⟨w',z.sameBut hs (cne y c e)⟩
    · obtain ⟨e,n,ne,nf,d⟩:=I.pin p hp
      exact ⟨(hs.2 p.1 ne).trans e,n,ne,nf,d⟩
  · have hfn : X.fn x = true:=by
      rcases hf with z | z
      · exact z
      · rw [z] at hk; cases hk
    obtain ⟨c,hc⟩:=I.ok.has x (.inl hk)
    obtain ⟨w',z⟩:=I.cell x c hc
    refine wpAny_storeName_cell I.ok.kind hk hc z (fun h' hc' hs=>?_)
    obtain ⟨oc,hoc,hocd⟩:=id z
    refine h { s with heap:=h' } ⟨I.ok,I.os,I.bare,⟨fun b o e n hb hx=>?_,fun b o e n hb hx=>?_,I.base.free,fun b o e hx=>?_,I.base.tups,I.base.frzs,I.base.tbls⟩,⟨m,hn.sameBut hs (Ne.symm (cne x c hc)),fun j y v' e1 e2 e3=>?_⟩,fun y c' e=>?_,I.free,I.freeC,fun p hp=>?_,tracked ⟨oc,hoc,I.freeC x c hc⟩ hs,by simpa using I.len⟩ ⟨c,hs,.inr hc⟩
    · exact (hs.2 b (Nat.ne_of_lt (Nat.lt_of_lt_of_le (Heap.lt_size e) (I.ok.cab x c hfn hc)))).trans (I.base.keep b o e n hb hx)
    · obtain ⟨sl,e1⟩:=I.base.slot b o e n hb hx
      exact ⟨sl,(hs.2 b (Nat.ne_of_lt (Nat.lt_of_lt_of_le (Heap.lt_size e) (I.ok.cab x c hfn hc)))).trans e1⟩
    · obtain ⟨o',e1⟩:=I.base.there b o e hx
      exact ⟨o',(hs.2 b (Nat.ne_of_lt (Nat.lt_of_lt_of_le (Heap.lt_size e) (I.ok.cab x c hfn hc)))).trans e1⟩
    · by_cases hj : j = i
      · subst hj
        rw [hi] at e1; cases e1
        rw [List.getElem?_set_self hiσ] at e2
        cases e2
        exact ⟨u,r,.inr ⟨.inl hk,c,hc,hc'⟩⟩
      · rw [List.getElem?_set_ne (Ne.symm hj)] at e2
        obtain ⟨u',r',q⟩:=hl j y v' e1 e2 e3
        refine ⟨u',r',?_⟩
        rcases q with q | ⟨k,c',e,z'⟩
        · exact .inl q
        · refine .inr ⟨k,c',e,z'.sameBut hs ?_⟩
          rintro rfl
          exact hj (nodup_ix hN e1 (I.ok.inj _ _ _ e hc ▸ hi))
    · by_cases hcc : c' = c
      · subst hcc; exact ⟨_,hc'⟩
      · obtain ⟨w2,z2⟩:=I.cell y c' e
        exact ⟨w2,z2.sameBut hs hcc⟩
    · obtain ⟨e,n,ne,nf,d⟩:=I.pin p hp
      refine ⟨(hs.2 p.1 ?_).trans e,n,ne,nf,d⟩
      intro q
      rw [q,hoc] at e
      have q' : oc = p.2:=Option.some.inj e
      exact d w' (by rw [<- q']; exact hocd)
theorem store_ok {M : Model} {A : Around} {E : Value -> Shared -> Prop} {i : Nat} {x : Str} {v : V} {u : Value} {Q : Unit -> Shared -> Prop} (I : Inv X pins σ H s) (hN : X.N.Nodup) (hi : X.N[i]? = some x) (hx : Loc X.env.scope x) (r : RelV v u)
    (h : ∀ s',Inv X pins (σ.set i (some v)) H s' -> Q () s') (hf : X.fn x = true \/ X.env.scope.names.lookup x = some .local:=by first | exact .inl rfl | exact .inr rfl | assumption) : wpAny M A (storeName X.env x u) Q E s:=
  store_ok2 I hN hi hx r (fun s' I' _=>h s' I') hf
theorem Inv.call' {s' : Shared} {ch : List Addr} (I : Inv X pins σ H s) (ho : s'.os = s.os) (u : Un (frs X.stack) ch H H' s.heap s'.heap) (hok : HOk X.prog X.w H' s'.heap) (hg : AllBare s'.gens)
    (hch : ∀ b ∈ ch,(b ∈ X.ex \/ X.s₀.heap.objs.size <= b) /\ b ≠ X.env.locals /\ (∀ x c,X.env.cells.lookup x = some c -> c ≠ b) /\ ∀ p ∈ X.pn ++ pins,p.1 ≠ b) : Inv X pins σ H' s':=by
  obtain ⟨h',g',d',t',o'⟩:=s'
  have e : o' = s.os:=ho
  subst e
  exact I.call (g':=g') (t':=t') (d':=d') u hok hg hch
end
abbrev XK:=Value -> Option Addr -> Hp -> Prop
abbrev St:=List (Option V)
abbrev VK:=V -> Hp -> Prop
abbrev TE:=St -> Hp -> VK -> Prop
abbrev TT:=St -> Hp -> (Bool -> Hp -> Prop) -> Prop
abbrev TA:=St -> Hp -> (List V -> Hp -> Prop) -> Prop
structure Ends where
  nx : St -> Hp -> Prop
  rt : VK
  bk : St -> Hp -> Prop:=fun _ _=>False
  ct : St -> Hp -> Prop:=fun _ _=>False
abbrev TS:=Ends -> St -> Hp -> Prop
def EP (X : Cx) (pins : List (Addr × Obj)) (σ : St) (Q : VK) (u : Value) (s' : Shared) : Prop:=∃ v H',Inv X pins σ H' s' /\ RelV v u /\ Q v H'
def TP (X : Cx) (pins : List (Addr × Obj)) (σ : St) (Q : Bool -> Hp -> Prop) (b : Bool) (s' : Shared) : Prop:=∃ H',Inv X pins σ H' s' /\ Q b H'
def AP (X : Cx) (pins : List (Addr × Obj)) (σ : St) (Q : List V -> Hp -> Prop) (us : List Value) (s' : Shared) : Prop:=∃ vs H',Inv X pins σ H' s' /\ Vals vs us /\ Q vs H'
def SP (X : Cx) (pins : List (Addr × Obj)) (D : Ends) (f : Flow) (s' : Shared) : Prop:=
  match f with
  | .next=>∃ σ' H',Inv X pins σ' H' s' /\ D.nx σ' H'
  | .brk=>∃ σ' H',Inv X pins σ' H' s' /\ D.bk σ' H'
  | .cont=>∃ σ' H',Inv X pins σ' H' s' /\ D.ct σ' H'
  | .ret u=>∃ v σ' H',Inv X pins σ' H' s' /\ RelV v u /\ D.rt v H'
def PE (X : Cx) (e : Expr) (t : TE) : Prop:=
  ∀ (pins : List (Addr × Obj)) (s : Shared) (σ : St) (H : Hp) (Q : VK),Inv X pins σ H s -> t σ H Q -> wpAny (model X.prog X.w) X.A (eval e X.env) (EP X pins σ Q) X.xe s
def PT (X : Cx) (e : Expr) (t : TT) : Prop:=
  ∀ (pins : List (Addr × Obj)) (s : Shared) (σ : St) (H : Hp) (Q : Bool -> Hp -> Prop),Inv X pins σ H s -> t σ H Q -> wpAny (model X.prog X.w) X.A (isTrue e X.env (eval e X.env)) (TP X pins σ Q) X.xe s
def PW (X : Cx) (e : Expr) (t : TT) : Prop:=
  ∀ (whole : Sem Value) (pins : List (Addr × Obj)) (s : Shared) (σ : St) (H : Hp) (Q : Bool -> Hp -> Prop),Inv X pins σ H s -> t σ H Q -> wpAny (model X.prog X.w) X.A (isTrue e X.env whole) (TP X pins σ Q) X.xe s
theorem PW.pt {X : Cx} {e : Expr} {t : TT} (h : PW X e t) : PT X e t:=h _
def PA (X : Cx) (es : List Expr) (t : TA) : Prop:=
  ∀ (pos : Pos) (pins : List (Addr × Obj)) (s : Shared) (σ : St) (H : Hp) (Q : List V -> Hp -> Prop),Inv X pins σ H s -> t σ H Q -> wpAny (model X.prog X.w) X.A (spliced (backTo pos (starEach es X.env))) (AP X pins σ Q) X.xe s
def PS (X : Cx) (st : Stmt) (t : TS) : Prop:=
  ∀ (pins : List (Addr × Obj)) (s : Shared) (σ : St) (H : Hp) (D : Ends),Inv X pins σ H s -> t D σ H -> wpAny (model X.prog X.w) X.A (exec st X.env) (SP X pins D) X.xe s
def PSs (X : Cx) (st : List Stmt) (t : TS) : Prop:=
  ∀ (pins : List (Addr × Obj)) (s : Shared) (σ : St) (H : Hp) (D : Ends),Inv X pins σ H s -> t D σ H -> wpAny (model X.prog X.w) X.A (execs st X.env) (SP X pins D) X.xe s
theorem thn {α : Type} {t : Sem α} {Q Q' : α -> Shared -> Prop} {M : Model} {A : Around} {E : Value -> Shared -> Prop} {s : Shared} (h : wpAny M A t Q E s) (hQ : ∀ a s,Q a s -> Q' a s) : wpAny M A t Q' E s:=wpAny_mono h hQ fun _ _ x=>x
end L2
namespace L2
open PySem PySem.Spec PyProof.Rows
section
variable {X : Cx}
def tVar (i : Nat) : TE:=fun σ H Q=>∃ v,σ[i]? = some (some v) /\ Q v H
def tC (v : V) : TE:=fun _ H Q=>Q v H
theorem pe_var {i : Nat} {x : Str} {pos : Pos} (hN : X.N[i]? = some x) (hv : Vis X.env.scope x) (hd : (x == ("__debug__" : Str)) = false:=by decide) (hcd : (x == ("__classdict__" : Str)) = false:=by decide) : PE X (.Name x pos) (tVar i):=by
  intro pins s σ H Q I h
  obtain ⟨v,e,h⟩:=h
  obtain ⟨m,hn,hl⟩:=I.loc
  obtain ⟨u,r,l⟩:=hl i x v hN e hv
  have fin : EP X pins σ Q u s:=⟨v,H,I,r,h⟩
  rcases l with ⟨hk,hm⟩ | ⟨hk,c,hc,hcell⟩
  · exact wpAny_Name (wpAny_loadName_local I.ok.kind hk hn hm fin) hd
  · rcases hk with hk | hk
    · exact wpAny_Name (wpAny_loadName_cell I.ok.kind hk hc hcell fin) hd
    · exact wpAny_Name (wpAny_loadName_free I.ok.kind hk hc hcell fin hcd) hd
theorem pe_int {i j pos} : PE X (.Constant (.int i) j pos) (tC (.int i)):=fun _ _ _ H _ I h=>wpAny_Constant_int ⟨.int i,H,I.tok _,⟨_,rfl⟩,h⟩
theorem pe_bl {b j pos} : PE X (.Constant (.bool b) j pos) (tC (.bl b)):=fun _ _ _ H _ I h=>Constant_bool ⟨.bl b,H,I,rfl,h⟩
theorem pe_non {j pos} : PE X (.Constant .none j pos) (tC .non):=fun _ _ _ H _ I h=>Constant_none ⟨.non,H,I,rfl,h⟩
theorem pe_str {x j pos} : PE X (.Constant (.str x) j pos) (tC (.str x)):=fun _ _ _ H _ I h=>Calls.Constant_str ⟨.str x,H,I.tok _,⟨_,rfl⟩,h⟩
def Gl (X : Cx) (x : Str) : Prop:=X.env.kindOf x = some .globalImplicit
theorem ld_glob {E : Value -> Shared -> Prop} {pins : List (Addr × Obj)} {s : Shared} {σ : St} {H : Hp} {x : Str} {u : Value} {pos : Pos} {Q : Value -> Shared -> Prop} (I : Inv X pins σ H s) (hg : Gl X x) (hm : X.mg x = some u) (h : Q u s)
    (hd : (x == ("__debug__" : Str)) = false:=by decide) : wpAny (model X.prog X.w) X.A (eval (.Name x pos) X.env) Q E s:=
  Calls.Name_function_global I.ok.kind hg (Calls.loadGlobal_global (by rw [I.ok.glob]; exact I.mod.glob.keeps I.bk) hm h) hd
theorem ld_blt {E : Value -> Shared -> Prop} {pins : List (Addr × Obj)} {s : Shared} {σ : St} {H : Hp} {x : Str} {u : Value} {pos : Pos} {Q : Value -> Shared -> Prop} (I : Inv X pins σ H s) (hg : Gl X x) (hm : X.mg x = none) (hv : bootBuiltins x = some u) (h : Q u s)
    (hn : x ≠ "__name__" := by decide) (hd : (x == ("__debug__" : Str)) = false:=by decide) : wpAny (model X.prog X.w) X.A (eval (.Name x pos) X.env) Q E s:=by
  obtain ⟨mb,h1,h2⟩:=I.mod.blt
  exact Calls.Name_function_global I.ok.kind hg (Calls.loadGlobal_builtin (by rw [I.ok.glob]; exact I.mod.glob.keeps I.bk) hm (by rw [I.ok.blt]; exact h1.keeps I.bk) ((h2 x hn).trans hv) h) hd
theorem pe_glob {x : Str} {v : V} {u : Value} {pos : Pos} (hg : Gl X x) (hm : X.mg x = some u) (r : RelV v u) (hd : (x == ("__debug__" : Str)) = false:=by decide) : PE X (.Name x pos) (tC v):=
  fun _ _ _ H _ I h=>ld_glob I hg hm ⟨v,H,I,r,h⟩ hd
theorem pe_bltn {x : Str} {v : V} {u : Value} {pos : Pos} (hg : Gl X x) (hm : X.mg x = none) (hv : bootBuiltins x = some u) (r : RelV v u) (hn : x ≠ "__name__" := by decide) (hd : (x == ("__debug__" : Str)) = false:=by decide) : PE X (.Name x pos) (tC v):=
  fun _ _ _ H _ I h=>ld_blt I hg hm hv ⟨v,H,I,r,h⟩ hn hd
variable {a b : Expr} {ta tb : TE} {pos : Pos}
def tB (t : TE) : TT:=fun σ H Q=>t σ H fun x H1=>∃ c,x = .bl c /\ Q c H1
theorem pt_val {e : Expr} {t : TE} (h : PE X e t) (he : ∀ whole,isTrue e X.env whole = (do let v <- whole; standAt e.pos; holding [v] (truthy v)):=by intro _; rfl) : PT X e (tB t):=by
  intro pins s σ H Q I hw
  refine isTrue_plain (thn (h pins s σ H _ I hw) fun v s1 ⟨x,H1,I1,r1,q1⟩=>?_) (he _)
  obtain ⟨d,rfl,q⟩:=q1
  cases r1
  exact wpAny_truthy_bool ⟨H1,I1,q⟩
variable {tA tB' : TT} {rest : List Expr}
def tAnd (t u : TT) : TT:=fun σ H Q=>t σ H fun c H1=>if c = true then u σ H1 Q else Q false H1
def tOr (t u : TT) : TT:=fun σ H Q=>t σ H fun c H1=>if c = true then Q true H1 else u σ H1 Q
def tNot (t : TT) : TT:=fun σ H Q=>t σ H fun c H1=>Q (!c) H1
theorem pw_and1 (ha : PT X a tA) : PW X (.BoolOp .And [a] pos) tA:=by
  intro wh pins s σ H Q I h
  refine isTrue_and (thn (ha pins s σ H Q I h) fun c s1 e=>?_)
  cases c with
  | true=>exact isTrue_and_nil e
  | false=>exact e
theorem pw_or1 (ha : PT X a tA) : PW X (.BoolOp .Or [a] pos) tA:=by
  intro wh pins s σ H Q I h
  refine isTrue_or (thn (ha pins s σ H Q I h) fun c s1 e=>?_)
  cases c with
  | false=>exact isTrue_or_nil e
  | true=>exact e
theorem pw_and (ha : PT X a tA) (hb : PW X (.BoolOp .And (b :: rest) pos) tB') : PW X (.BoolOp .And (a :: b :: rest) pos) (tAnd tA tB'):=by
  intro wh pins s σ H Q I h
  refine isTrue_and (thn (ha pins s σ H _ I h) fun c s1 ⟨H1,I1,q1⟩=>?_)
  cases c with
  | true=>exact hb wh pins s1 σ H1 Q I1 q1
  | false=>exact ⟨H1,I1,q1⟩
theorem pw_or (ha : PT X a tA) (hb : PW X (.BoolOp .Or (b :: rest) pos) tB') : PW X (.BoolOp .Or (a :: b :: rest) pos) (tOr tA tB'):=by
  intro wh pins s σ H Q I h
  refine isTrue_or (thn (ha pins s σ H _ I h) fun c s1 ⟨H1,I1,q1⟩=>?_)
  cases c with
  | true=>exact ⟨H1,I1,q1⟩
  | false=>exact hb wh pins s1 σ H1 Q I1 q1
theorem pt_not (ha : PT X a tA) : PT X (.UnaryOp .Not a pos) (tNot tA):=by
  intro pins s σ H Q I h
  exact isTrue_not (ha pins s σ H (fun c H1=>Q (!c) H1) I h)
def tAndV (ta tb : TE) : TE:=fun σ H Q=>ta σ H fun x H1=>∃ c,x = .bl c /\ if c = true then tb σ H1 Q else Q (.bl false) H1
def tOrV (ta tb : TE) : TE:=fun σ H Q=>ta σ H fun x H1=>∃ c,x = .bl c /\ if c = true then Q (.bl true) H1 else tb σ H1 Q
def tNotV (ta : TE) : TE:=fun σ H Q=>ta σ H fun x H1=>∃ c,x = .bl c /\ Q (.bl (!c)) H1
theorem pe_one {op} {t : TE} (h : PE X a t) : PE X (.BoolOp op [a] pos) t:=fun pins s σ H Q I hw=>BoolOp_one (h pins s σ H Q I hw)
theorem pe_and (ha : PE X a ta) (hb : PE X (.BoolOp .And (b :: rest) pos) tb) : PE X (.BoolOp .And (a :: b :: rest) pos) (tAndV ta tb):=by
  intro pins s σ H Q I h
  refine BoolOp_and (thn (ha pins s σ H _ I h) fun v s1 ⟨x,H1,I1,r1,q1⟩=>?_)
  obtain ⟨c,rfl,q1⟩:=q1
  cases r1
  refine wpAny_truthy_bool ?_
  cases c with
  | true=>exact hb pins s1 σ H1 Q I1 q1
  | false=>exact ⟨.bl false,H1,I1,rfl,q1⟩
theorem pe_or (ha : PE X a ta) (hb : PE X (.BoolOp .Or (b :: rest) pos) tb) : PE X (.BoolOp .Or (a :: b :: rest) pos) (tOrV ta tb):=by
  intro pins s σ H Q I h
  refine BoolOp_or (thn (ha pins s σ H _ I h) fun v s1 ⟨x,H1,I1,r1,q1⟩=>?_)
  obtain ⟨c,rfl,q1⟩:=q1
  cases r1
  refine wpAny_truthy_bool ?_
  cases c with
  | false=>exact hb pins s1 σ H1 Q I1 q1
  | true=>exact ⟨.bl true,H1,I1,rfl,q1⟩
theorem pe_not (ha : PE X a ta) : PE X (.UnaryOp .Not a pos) (tNotV ta):=by
  intro pins s σ H Q I h
  refine UnaryOp_ (thn (ha pins s σ H _ I h) fun v s1 ⟨x,H1,I1,r1,q1⟩=>?_)
  obtain ⟨c,rfl,q1⟩:=q1
  cases r1
  exact not_of (wpAny_truthy_bool ⟨.bl (!c),H1,I1,rfl,q1⟩)
end
end L2
namespace L2
open PySem PySem.Spec PyProof.Rows
def SqL (K : PySem.W.Frag) (H : Hp) (a : Addr) (xs : List V) : Prop:=
  Rd H a (.lst xs) \/
    ∃ (o : Obj) (its : Array Value) (n : Nat),K.lookup a = some o /\ o.cls = .type "list" /\ o.dict = none /\ o.data = .seq its n /\ its.size <= sizeLine /\ Vals xs its.toList
def SqT (K : PySem.W.Frag) (H : Hp) (a : Addr) (xs : List V) : Prop:=
  Rd H a (.tup xs) \/
    ∃ (o : Obj) (its : Array Value) (n : Nat),K.lookup a = some o /\ o.cls = .type "tuple" /\ o.data = .seq its n /\ its.size <= sizeLine /\ Vals xs its.toList
def absV : Value -> Option V
  | .none=>some .non
  | .bool b=>some (.bl b)
  | .int i _=>some (.int i)
  | .str x _=>some (.str x)
  | .bytes b _=>some (.byt b)
  | .float b _=>some (.flt b)
  | .ref a=>some (.ref a)
  | .type n=>some (.ty n)
  | _=>none
theorem RelV.abs {x : V} {u : Value} (r : RelV x u) : absV u = some x:=by
  cases x with
  | non=>cases r; rfl
  | bl _=>cases r; rfl
  | int _=>obtain ⟨t,rfl⟩:=r; rfl
  | str _=>obtain ⟨t,rfl⟩:=r; rfl
  | byt _=>obtain ⟨t,rfl⟩:=r; rfl
  | flt _=>obtain ⟨t,rfl⟩:=r; rfl
  | ref _=>cases r; rfl
  | ty _=>cases r; rfl
theorem RelV.inj {x y : V} {u : Value} (r : RelV x u) (q : RelV y u) : x = y:=Option.some.inj (r.abs.symm.trans q.abs)
theorem Vals.inj : ∀ {xs ys : List V} {us : List Value},Vals xs us -> Vals ys us -> xs = ys
  | _,_,_,.nil,.nil=>rfl
  | _,_,_,.cons r t,.cons r' t'=>by rw [r.inj r',Vals.inj t t']
section
variable {X : Cx} {pins : List (Addr × Obj)} {σ : St} {H : Hp} {s : Shared} {a : Addr} {xs ys : List V}
theorem SqL.of {K : PySem.W.Frag} (h : H a = some (.lst xs)) : SqL K H a xs:=.inl (.inl h)
theorem SqT.of {K : PySem.W.Frag} (h : H a = some (.tup xs)) : SqT K H a xs:=.inl (.inl h)
theorem Inv.list (I : Inv X pins σ H s) (h : SqL X.K H a xs) : ∃ its : List Value,Vals xs its /\ PlainL s.heap a its.toArray /\ xs.length <= sizeLine:=by
  rcases h with h | ⟨o,its,n,hk,hc,hd,hs,hz,r⟩
  · obtain ⟨z,its,n,r,e⟩:=h.ok I.hok
    exact ⟨its,r,⟨_,n,e,rfl,rfl,rfl⟩,z⟩
  · refine ⟨its.toList,r,⟨o,n,I.kIn a o hk,hc,hd,by simpa using hs⟩,?_⟩
    have e:=r.length
    simp only [Array.length_toList] at e
    omega
theorem Inv.tuple (I : Inv X pins σ H s) (h : SqT X.K H a xs) : ∃ its : List Value,Vals xs its /\ IsTup s.heap a its.toArray /\ xs.length <= sizeLine:=by
  rcases h with h | ⟨o,its,n,hk,hc,hs,hz,r⟩
  · obtain ⟨z,its,r,p⟩:=h.ok I.hok
    exact ⟨its,r,p,z⟩
  · refine ⟨its.toList,r,⟨o,I.kIn a o hk,hc,n,by simpa using hs⟩,?_⟩
    have e:=r.length
    simp only [Array.length_toList] at e
    omega
theorem Inv.list_inj (I : Inv X pins σ H s) (h : SqL X.K H a xs) (h' : SqL X.K H a ys) : xs = ys:=by
  obtain ⟨its,r,⟨o,n,e,_,_,d⟩,_⟩:=I.list h
  obtain ⟨its',r',⟨o',n',e',_,_,d'⟩,_⟩:=I.list h'
  rw [e] at e'; cases e'
  rw [d] at d'
  injection d' with d1 _
  have : its = its':=by simpa using congrArg Array.toList d1
  subst this
  exact r.inj r'
theorem Inv.tuple_inj (I : Inv X pins σ H s) (h : SqT X.K H a xs) (h' : SqT X.K H a ys) : xs = ys:=by
  obtain ⟨its,r,⟨o,e,_,n,d⟩,_⟩:=I.tuple h
  obtain ⟨its',r',⟨o',e',_,n',d'⟩,_⟩:=I.tuple h'
  rw [e] at e'; cases e'
  rw [d] at d'
  injection d' with d1 _
  have : its = its':=by simpa using congrArg Array.toList d1
  subst this
  exact r.inj r'
end
abbrev Cx.wish (X : Cx) (E : Value -> Shared -> Prop) : Cx:={ X with xe:=E }
abbrev Cx.nox (X : Cx) : Cx:=X.wish fun _ _=>False
theorem Cx.Ok.wish {X : Cx} (ok : X.Ok) (E : Value -> Shared -> Prop) : (X.wish E).Ok:=
  ⟨ok.mod,ok.kind,ok.glob,ok.blt,ok.above,ok.inj,ok.has,ok.cab,ok.hd,ok.frames,ok.stk,ok.exf,ok.bs,ok.bsz,ok.noex,ok.exfs,ok.funs,ok.frf⟩
theorem Cx.Ok.unwish {X : Cx} {E : Value -> Shared -> Prop} (ok : (X.wish E).Ok) : X.Ok:=
  ⟨ok.mod,ok.kind,ok.glob,ok.blt,ok.above,ok.inj,ok.has,ok.cab,ok.hd,ok.frames,ok.stk,ok.exf,ok.bs,ok.bsz,ok.noex,ok.exfs,ok.funs,ok.frf⟩
section
variable {X : Cx} {pins : List (Addr × Obj)} {σ : St} {H : Hp} {s : Shared} {E : Value -> Shared -> Prop}
theorem Inv.wish (I : Inv X pins σ H s) (E : Value -> Shared -> Prop) : Inv (X.wish E) pins σ H s:=⟨I.ok.wish E,I.os,I.bare,I.base,I.loc,I.cell,I.free,I.freeC,I.pin,I.hok,I.len⟩
theorem Inv.unwish (I : Inv (X.wish E) pins σ H s) : Inv X pins σ H s:=⟨I.ok.unwish,I.os,I.bare,I.base,I.loc,I.cell,I.free,I.freeC,I.pin,I.hok,I.len⟩
end
section
variable {X : Cx} {st : Stmt} {rest : List Stmt} {t u : TS} {e : Expr} {te : TE} {pos : Pos}
def tNext : TS:=fun D σ H=>D.nx σ H
def tSeq (t u : TS) : TS:=fun D σ H=>t { D with nx:=u D } σ H
theorem pss_nil : PSs X [] tNext:=fun _ _ σ H _ I h=>wpAny_execs_nil ⟨σ,H,I,h⟩
theorem pss_cons (h1 : PS X st t) (h2 : PSs X rest u) : PSs X (st :: rest) (tSeq t u):=by
  intro pins s σ H D I h
  refine wpAny_execs_cons (thn (h1 pins s σ H { D with nx:=u D } I h) fun f s1 q=>?_)
  cases f with
  | next=>
    obtain ⟨σ',H',I',q⟩:=q
    exact h2 pins s1 σ' H' D I' q
  | ret v=>exact q
  | brk=>exact q
  | cont=>exact q
theorem pss_one (h1 : PS X st t) : PSs X [st] t:=by
  intro pins s σ H D I h
  refine wpAny_execs_cons (thn (h1 pins s σ H D I h) fun f s1 q=>?_)
  cases f with
  | next=>exact wpAny_execs_nil q
  | ret v=>exact q
  | brk=>exact q
  | cont=>exact q
theorem Inv.quiet {pins : List (Addr × Obj)} {σ : St} {H : Hp} {s : Shared} (I : Inv X pins σ H s) : interactive X.env = false:=by simp [interactive,I.ok.kind]
def tDrop (te : TE) : TS:=fun D σ H=>te σ H fun _ H1=>D.nx σ H1
theorem ps_expr (he : PE X e te) (hs : swapsWith e none pos.line X.env = pure false:=by rfl) : PS X (.Expr e pos) (tDrop te):=by
  intro pins s σ H D I h
  exact wpAny_Expr_any (thn (he pins s σ H _ I h) fun v s1 ⟨x,H1,I1,r1,q1⟩=>⟨σ,H1,I1,q1⟩) I.quiet hs
def tRet (te : TE) : TS:=fun D σ H=>te σ H D.rt
theorem ps_ret (he : PE X e te) : PS X (.Return (some e) pos) (tRet te):=by
  intro pins s σ H D I h
  exact wpAny_Return_some (thn (he pins s σ H _ I h) fun v s1 ⟨x,H1,I1,r1,q1⟩=>⟨x,σ,H1,I1,r1,q1⟩)
def tIfS (c : TT) (t u : TS) : TS:=fun D σ H=>c σ H fun b H1=>if b = true then t D σ H1 else u D σ H1
theorem ps_if {c : Expr} {a b : List Stmt} {tc : TT} (hc : PT X c tc) (ha : PSs X a t) (hb : PSs X b u) : PS X (.If c a b pos) (tIfS tc t u):=by
  intro pins s σ H D I h
  refine wpAny_If (thn (hc pins s σ H _ I h) fun d s1 ⟨H1,I1,q1⟩=>?_)
  cases d with
  | true=>exact ha pins s1 σ H1 D I1 q1
  | false=>exact hb pins s1 σ H1 D I1 q1
end
abbrev TG:=V -> St -> Hp -> (St -> Hp -> Prop) -> Prop
abbrev TGs:=List V -> St -> Hp -> (St -> Hp -> Prop) -> Prop
def PG (X : Cx) (target : Expr) (t : TG) : Prop:=
  ∀ (pins : List (Addr × Obj)) (s : Shared) (σ : St) (H : Hp) (v : V) (u : Value) (Q : St -> Hp -> Prop),Inv X pins σ H s -> RelV v u -> t v σ H Q ->
    wpAny (model X.prog X.w) X.A (assign target X.env u) (fun _ s'=>∃ σ' H',Inv X pins σ' H' s' /\ Q σ' H') X.xe s
def PGs (X : Cx) (ts : List Expr) (t : TGs) : Prop:=
  ∀ (pins : List (Addr × Obj)) (s : Shared) (σ : St) (H : Hp) (vs : List V) (us : List Value) (Q : St -> Hp -> Prop),Inv X pins σ H s -> Vals vs us -> t vs σ H Q ->
    wpAny (model X.prog X.w) X.A (assignInOrder ((assignEach ts X.env).map (·.2)) us) (fun _ s'=>∃ σ' H',Inv X pins σ' H' s' /\ Q σ' H') X.xe s
abbrev TSet:=V -> V -> V -> Hp -> (Hp -> Prop) -> Prop
def PSet (X : Cx) (t : TSet) : Prop:=
  ∀ (pins : List (Addr × Obj)) (s : Shared) (σ : St) (H : Hp) (o i v : V) (ov iv u : Value) (Q : Hp -> Prop),Inv X pins σ H s -> RelV o ov -> RelV i iv -> RelV v u -> t o i v H Q ->
    wpAny (model X.prog X.w) X.A (setItem ov iv u) (fun _ s'=>∃ H',Inv X pins σ H' s' /\ Q H') X.xe s
section
variable {X : Cx} {pos : Pos}
def gName (i : Nat) : TG:=fun v σ H Q=>Q (σ.set i (some v)) H
theorem pg_name {i : Nat} {x : Str} (hN : X.N.Nodup) (hi : X.N[i]? = some x) (hx : Loc X.env.scope x) (hf : X.fn x = true \/ X.env.scope.names.lookup x = some .local:=by first | exact .inl rfl | exact .inr rfl | assumption) : PG X (.Name x pos) (gName i):=by
  intro pins s σ H v u Q I r h
  exact wpAny_assign_Name (store_ok I hN hi hx r (fun s' I'=>⟨_,H,I',h⟩) hf)
def gNil : TGs:=fun vs σ H Q=>vs = [] /\ Q σ H
def gCons (t : TG) (u : TGs) : TGs:=fun vs σ H Q=>∃ v r,vs = v :: r /\ t v σ H fun σ' H'=>u r σ' H' Q
theorem pgs_nil : PGs X [] gNil:=by
  intro pins s σ H vs us Q I r h
  obtain ⟨e,h⟩:=h
  subst e
  cases r
  exact assignInOrder_nil ⟨σ,H,I,h⟩
theorem pgs_cons {e : Expr} {es : List Expr} {t : TG} {u : TGs} (h1 : PG X e t) (h2 : PGs X es u)
    (hs : (assignEach (e :: es) X.env).map (·.2) = assign e X.env :: (assignEach es X.env).map (·.2):=by rfl) : PGs X (e :: es) (gCons t u):=by
  intro pins s σ H vs us Q I r h
  obtain ⟨v,vr,e1,h⟩:=h
  subst e1
  cases r with
  | cons r rr=>
    rw [hs]
    refine assignInOrder_cons (thn (h1 pins s σ H _ _ _ I r h) fun _ s1 ⟨σ1,H1,I1,q1⟩=>?_)
    exact h2 pins s1 σ1 H1 _ _ Q I1 rr q1
def gTup (K : PySem.W.Frag) (n : Nat) (t : TGs) : TG:=fun v σ H Q=>∃ a xs,v = .ref a /\ SqT K H a xs /\ xs.length = n /\ t xs σ H Q
theorem pg_tup {es : List Expr} {k : Nat} {t : TGs} {n : Nat} (hc : X.calm = true) (h : PGs X es t)
    (hn : (assignEach es X.env).length = n:=by rfl) (hst : (assignEach es X.env).findIdx? (·.1) = none:=by rfl) : PG X (.Tuple es k pos) (gTup X.K n t):=by
  intro pins s σ H v u Q I r hw
  obtain ⟨a,xs,e1,hq,hl,hw⟩:=hw
  subst e1
  cases r
  obtain ⟨its,rv,ht,hz⟩:=I.tuple hq
  refine assign_Tuple_tuple (I.ok.hd hc) ht (by simp [hn,<- hl,rv.length]) hst fun h' hx=>?_
  have I1 : Inv X pins σ H { s with heap:=h' }:=I.kept (t':=s.toks) fun b o e=>hx b o (Nat.ne_of_lt (Heap.lt_size e)) e
  exact h pins _ σ H xs _ Q I1 (by simpa using rv) hw
def gSub (to ti : TE) (t : TSet) : TG:=fun v σ H Q=>to σ H fun o H1=>ti σ H1 fun i H2=>t o i v H2 fun H3=>Q σ H3
theorem pg_sub {o i : Expr} {to ti : TE} {t : TSet} (ho : PE X o to) (hi : PE X i ti) (hs : PSet X t)
    (ha : ∀ v,assign (.Subscript o i pos) X.env v = (do
      let ov <- holding [v] (eval o X.env)
      let iv <- holding [v,ov] (eval i X.env)
      standAt pos
      holding [v,ov,iv] (setItem ov iv v)
      release [v,ov,iv] []):=by intro _; rfl) : PG X (.Subscript o i pos) (gSub to ti t):=by
  intro pins s σ H v u Q I r h
  rw [ha]
  refine wpAny_bind (wpAny_holding (thn (ho pins s σ H _ I h) fun ov s1 ⟨x,H1,I1,r1,q1⟩=>?_))
  refine wpAny_bind (wpAny_holding (thn (hi pins s1 σ H1 _ I1 q1) fun iv s2 ⟨y,H2,I2,r2,q2⟩=>?_))
  refine wpAny_bind (wpAny_standAt (wpAny_bind (wpAny_holding (thn (hs pins s2 σ H2 x y v ov iv u _ I2 r1 r2 r q2) fun _ s3 ⟨H3,I3,q3⟩=>?_))))
  exact wpAny_release ⟨σ,H3,I3,q3⟩
def tAsg (te : TE) (g : TG) : TS:=fun D σ H=>te σ H fun x H1=>g x σ H1 D.nx
theorem ps_asg {tg e : Expr} {te : TE} {g : TG} (he : PE X e te) (hg : PG X tg g) (hs : swapsWithSole [tg] e pos.line X.env = pure false:=by rfl) (hw : swappedStores [tg] e X.env = pure none:=by rfl)
    (h1 : (assignEach [tg] X.env).map (·.2) = [assign tg X.env]:=by rfl) : PS X (.Assign [tg] e pos) (tAsg te g):=by
  intro pins s σ H D I h
  refine wpAny_Assign_stores (thn (he pins s σ H _ I h) fun v s1 ⟨x,H1,I1,r1,q1⟩=>?_) hs hw
  rw [h1]
  exact thn (hg pins s1 σ H1 x v _ I1 r1 q1) fun _ s2 q=>q
theorem ps_set {i : Nat} {x : Str} {e : Expr} {te : TE} {pos' : Pos} (hN : X.N.Nodup) (hi : X.N[i]? = some x) (hx : Loc X.env.scope x) (he : PE X e te) (hs : swapsWith e (some (.Name x pos')) pos.line X.env = pure false:=by rfl) (hf : X.fn x = true \/ X.env.scope.names.lookup x = some .local:=by first | exact .inl rfl | exact .inr rfl | assumption) :
    PS X (.Assign [.Name x pos'] e pos) (tAsg te (gName i)):=by
  intro pins s σ H D I h
  refine wpAny_Assign_Name (thn (he pins s σ H _ I h) fun v s1 ⟨y,H1,I1,r1,q1⟩=>?_) hs
  exact store_ok I1 hN hi hx r1 (fun s2 I2=>⟨_,H1,I2,q1⟩) hf
end
section
variable {X : Cx} {pos : Pos}
def tWhile (c : TT) (tb : TS) : TS:=fun D σ H=>∃ W : Nat -> St -> Hp -> Prop,(∃ m,W m σ H) /\ ∀ m σ H,W m σ H ->
  c σ H fun b H1=>if b = true then ∃ N : St -> Hp -> Prop,(∀ σ' H',N σ' H' -> ∃ m',m' < m /\ W m' σ' H') /\ tb { D with nx:=N,ct:=N,bk:=D.nx } σ H1 else D.nx σ H1
theorem ps_while {c : Expr} {body : List Stmt} {tc : TT} {tb : TS} (hp : PassesOwn (model X.prog X.w) X.A X.env X.xe) (hc : PT X c tc) (hb : PSs X body tb) : PS X (.While c body [] pos) (tWhile tc tb):=by
  intro pins s σ H D I h
  obtain ⟨W,⟨m0,w0⟩,turn⟩:=h
  refine wpAny_While (codeAny_whileLoop (fun n s'=>∃ σ' H',Inv X pins σ' H' s' /\ W n σ' H') ?_ m0 ⟨σ,H,I,w0⟩)
  rintro n s1 ⟨σ1,H1,I1,w1⟩
  refine wpAny_passesOwn hp (thn (hc pins s1 σ1 H1 _ I1 (turn n σ1 H1 w1)) fun b s2 ⟨H2,I2,q2⟩=>?_)
  cases b with
  | true=>
    obtain ⟨N,hN,q2⟩:=q2
    rw [if_pos rfl]
    refine wpAny_passesOwn hp (thn (hb pins s2 σ1 H2 _ I2 q2) fun f s3 q3=>?_)
    cases f with
    | next=>
      obtain ⟨σ3,H3,I3,n3⟩:=q3
      obtain ⟨m',hm,w3⟩:=hN σ3 H3 n3
      exact ⟨m',hm,σ3,H3,I3,w3⟩
    | cont=>
      obtain ⟨σ3,H3,I3,n3⟩:=q3
      obtain ⟨m',hm,w3⟩:=hN σ3 H3 n3
      exact ⟨m',hm,σ3,H3,I3,w3⟩
    | brk=>exact q3
    | ret v=>exact q3
  | false=>
    rw [if_neg Bool.false_ne_true]
    exact wpAny_execs_nil ⟨σ1,H2,I2,q2⟩
end
structure It where
  go : Nat -> Hp -> Prop
  yld : Nat -> Hp -> V -> Hp -> Prop
  stop : Nat -> Hp -> Prop
def FpOk (X : Cx) (pins : List (Addr × Obj)) (H : Hp) (b : Addr) : Prop:=
  H b = none /\ b ≠ X.env.locals /\ b ∉ X.fs /\ (b ∈ X.ex \/ X.s₀.heap.objs.size <= b) /\ (∀ x c,X.env.cells.lookup x = some c -> c ≠ b) /\ ∀ p ∈ X.pn ++ pins,p.1 ≠ b
theorem Inv.fpOk {X : Cx} {pins : List (Addr × Obj)} {σ : St} {H H' : Hp} {s : Shared} {b : Addr} (I : Inv X pins σ H s) (hb : s.heap.objs.size <= b) (hn : H' b = none) : FpOk X pins H' b:=by
  refine ⟨hn,Nat.ne_of_gt (Nat.lt_of_lt_of_le I.lt hb),I.nofs hb,.inr (Nat.le_trans I.sz hb),fun x c e z=>?_,fun p hp z=>?_⟩
  · obtain ⟨v,q⟩:=I.cell x c e
    exact absurd (Nat.lt_of_lt_of_le q.lt (by rw [z]; exact hb)) (Nat.lt_irrefl _)
  · exact absurd (Nat.lt_of_lt_of_le (Heap.lt_size (I.pin p hp).1) (by rw [z]; exact hb)) (Nat.lt_irrefl _)
structure Turn (P : Program) (w : World) (K : PySem.W.Frag) (tg : Expr) (J : It) (fp : List Addr) (it : Addr) (tn : Nat -> Heap -> Prop) : Prop where
  mem : it ∈ fp
  obj : ∀ i h,tn i h -> ∀ b ∈ fp,∃ o,h.get? b = some o /\ ∀ v,o.data ≠ .cell v
  keep : ∀ i h h',tn i h -> (∀ b ∈ fp,∀ o,h.get? b = some o -> h'.get? b = some o) -> tn i h'
  item : ∀ (X : Cx),X.prog = P -> X.w = w -> X.K = K -> X.calm = true -> ∀ (i : Nat) (pins : List (Addr × Obj)) (s : Shared) (σ : St) (H : Hp) (E : Value -> Shared -> Prop),Inv X pins σ H s -> (∀ b ∈ fp,FpOk X pins H b) -> tn i s.heap -> J.go i H ->
    wpAny (model P w) X.A (pyNext (.ref it)) (fun r s1=>∃ u,r = some u /\
      wpAny (model P w) X.A (letOwnedTupleGo tg (.ref it) u) (fun _ s2=>∃ x H',Inv X pins σ H' s2 /\ RelV x u /\ J.yld i H x H' /\ tn (i + 1) s2.heap /\ ∀ b ∈ fp,H' b = none) E s1) E s
  done : ∀ (X : Cx),X.prog = P -> X.w = w -> X.K = K -> X.calm = true -> ∀ (i : Nat) (pins : List (Addr × Obj)) (s : Shared) (σ : St) (H : Hp) (E : Value -> Shared -> Prop),Inv X pins σ H s -> (∀ b ∈ fp,FpOk X pins H b) -> tn i s.heap -> J.stop i H ->
    wpAny (model P w) X.A (pyNext (.ref it)) (fun r s1=>r = none /\ Inv X pins σ H s1) E s
  self : ∀ (A : Around) (i : Nat) (s : Shared) (Q : Value -> Shared -> Prop) (E : Value -> Shared -> Prop),tn i s.heap -> Q (.ref it) s -> wpAny (model P w) A (pyIter (.ref it)) Q E s
abbrev TI:=St -> Hp -> (It -> Hp -> Prop) -> Prop
def PIE (X : Cx) (pins : List (Addr × Obj)) (σ : St) (tg : Expr) (R : It -> Hp -> Prop) (itv : Value) (s2 : Shared) : Prop:=
  ∃ (it : Addr) (fp : List Addr) (tn : Nat -> Heap -> Prop) (J : It) (H' : Hp),itv = .ref it /\ Inv X pins σ H' s2 /\ Turn X.prog X.w X.K tg J fp it tn /\ tn 0 s2.heap /\ (∀ b ∈ fp,FpOk X pins H' b) /\ R J H'
def PI (X : Cx) (tg iter : Expr) (wi : TI) : Prop:=
  ∀ (pins : List (Addr × Obj)) (s : Shared) (σ : St) (H : Hp) (R : It -> Hp -> Prop),Inv X pins σ H s -> wi σ H R ->
    wpAny (model X.prog X.w) X.A (eval iter X.env) (fun v s1=>wpAny (model X.prog X.w) X.A (pyIter v) (PIE X pins σ tg R) X.xe s1) X.xe s
theorem go_of {M : Model} {A : Around} {E : Value -> Shared -> Prop} {s : Shared} {tg : Expr} {it : Addr} {u : Value} {o : Obj} {n : String} {vs : Array Value} {Q : Unit -> Shared -> Prop} (ho : s.heap.get? it = some o) (hc : o.cls = .type n) (hd : o.data = .fields vs)
    (hn : ["enumerate", "zip", "dict_itemiterator", "dict_reverseitemiterator", "odict_iterator", "itertools.zip_longest", "itertools.pairwise"].contains n = false) (hQ : Q () s) : wpAny M A (letOwnedTupleGo tg (.ref it) u) Q E s:=by
  unfold letOwnedTupleGo
  cases tg <;> first
    | exact wpAny_pure hQ
    | (cases u <;> first
        | exact wpAny_pure hQ
        | (refine wpAny_bind (wpAny_load ho ?_)
           rw [hc,hd]
           show wpAny M A (if (["enumerate", "zip", "dict_itemiterator", "dict_reverseitemiterator", "odict_iterator", "itertools.zip_longest", "itertools.pairwise"].contains n && vs[0]? == some (rawInt _)) = true then _ else _) Q E s
           rw [if_neg (by intro h; rw [hn,Bool.false_and] at h; cases h)]
           exact wpAny_pure hQ))
def Itl (K : PySem.W.Frag) (a : Addr) : It:=
  ⟨fun i H=>∃ xs x,SqL K H a xs /\ xs[i]? = some x,fun i H x H'=>H' = H /\ ∀ xs,SqL K H a xs -> xs[i]? = some x,fun i H=>∃ xs,SqL K H a xs /\ xs.length <= i⟩
def Itt (K : PySem.W.Frag) (a : Addr) : It:=
  ⟨fun i H=>∃ xs x,SqT K H a xs /\ xs[i]? = some x,fun i H x H'=>H' = H /\ ∀ xs,SqT K H a xs -> xs[i]? = some x,fun i H=>∃ xs,SqT K H a xs /\ xs.length <= i⟩
def Itr (lo : Int) (n : Nat) : It:=⟨fun i _=>i < n,fun i H x H'=>H' = H /\ x = .int (lo + i),fun i _=>n <= i⟩
theorem turn_list {P : Program} {w : World} {K : PySem.W.Frag} {tg : Expr} (a it : Addr) : Turn P w K tg (Itl K a) [it] it (fun i h=>h.IsListIter it a i) where
  mem:=by simp
  obj:=fun i h st b hb=>by
    have e : b = it:=by simpa using hb
    subst e
    obtain ⟨o,e,c,d⟩:=st
    exact ⟨o,e,fun v z=>by rw [d] at z; cases z⟩
  keep:=fun i h h' st k=>st.at fun o e=>k it (by simp) o e
  item:=by
    intro X hP hw hK hc i pins s σ H E I hf st hg
    subst hP hw hK
    obtain ⟨xs,x,hq,hx⟩:=hg
    obtain ⟨its,rv,p,hz⟩:=I.list hq
    obtain ⟨u,hu,ru⟩:=rv.get hx
    obtain ⟨f0,f1,f2,f3,f4,f5⟩:=hf it (by simp)
    refine wpAny_pyNext_list_item st p.isList (x:=u) (by simpa using hu) fun h' st' sb=>?_
    have I1 : Inv X pins σ H { s with heap:=h' }:=I.turned (t':=s.toks) (fun b o hb e=>(sb.2 b hb).trans e) f0 f1 f3 f4 f5
    obtain ⟨o,e,c,d⟩:=id st'
    exact ⟨u,rfl,go_of (s:={ s with heap:=h' }) e c d (by decide) ⟨x,H,I1,ru,⟨rfl,fun ys hy=>by rw [I.list_inj hy hq]; exact hx⟩,st',fun b hb=>(hf b hb).1⟩⟩
  done:=by
    intro X hP hw hK hc i pins s σ H E I hf st hg
    subst hP hw hK
    obtain ⟨xs,hq,hx⟩:=hg
    obtain ⟨its,rv,p,hz⟩:=I.list hq
    obtain ⟨f0,f1,f2,f3,f4,f5⟩:=hf it (by simp)
    have hl:=rv.length
    exact wpAny_pyNext_list_end (I.ok.hd hc) st p.isList (by simp; omega) fun h' eb=>⟨rfl,I.turned (t':=s.toks) (fun b o hb e=>eb b o hb e) f0 f1 f3 f4 f5⟩
  self:=fun _ _ _ _ _ st h=>wpAny_pyIter_listiter st h
theorem turn_tuple {P : Program} {w : World} {K : PySem.W.Frag} {tg : Expr} (a it : Addr) : Turn P w K tg (Itt K a) [it] it (fun i h=>h.IsTupleIter it a i) where
  mem:=by simp
  obj:=fun i h st b hb=>by
    have e : b = it:=by simpa using hb
    subst e
    obtain ⟨o,e,c,d⟩:=st
    exact ⟨o,e,fun v z=>by rw [d] at z; cases z⟩
  keep:=fun i h h' st k=>st.at fun o e=>k it (by simp) o e
  item:=by
    intro X hP hw hK hc i pins s σ H E I hf st hg
    subst hP hw hK
    obtain ⟨xs,x,hq,hx⟩:=hg
    obtain ⟨its,rv,p,hz⟩:=I.tuple hq
    obtain ⟨u,hu,ru⟩:=rv.get hx
    obtain ⟨f0,f1,f2,f3,f4,f5⟩:=hf it (by simp)
    refine wpAny_pyNext_tuple_item st (show s.heap.IsTuple a its.toArray from p) (x:=u) (by simpa using hu) fun h' st' sb=>?_
    have I1 : Inv X pins σ H { s with heap:=h' }:=I.turned (t':=s.toks) (fun b o hb e=>(sb.2 b hb).trans e) f0 f1 f3 f4 f5
    obtain ⟨o,e,c,d⟩:=id st'
    exact ⟨u,rfl,go_of (s:={ s with heap:=h' }) e c d (by decide) ⟨x,H,I1,ru,⟨rfl,fun ys hy=>by rw [I.tuple_inj hy hq]; exact hx⟩,st',fun b hb=>(hf b hb).1⟩⟩
  done:=by
    intro X hP hw hK hc i pins s σ H E I hf st hg
    subst hP hw hK
    obtain ⟨xs,hq,hx⟩:=hg
    obtain ⟨its,rv,p,hz⟩:=I.tuple hq
    obtain ⟨f0,f1,f2,f3,f4,f5⟩:=hf it (by simp)
    have hl:=rv.length
    exact wpAny_pyNext_tuple_end (I.ok.hd hc) st (show s.heap.IsTuple a its.toArray from p) (by simp; omega) fun h' eb=>⟨rfl,I.turned (t':=s.toks) (fun b o hb e=>eb b o hb e) f0 f1 f3 f4 f5⟩
  self:=fun _ _ _ _ _ st h=>wpAny_pyIter_tupleiter st h
theorem turn_range {P : Program} {w : World} {K : PySem.W.Frag} {tg : Expr} (it : Addr) (lo : Int) (n : Nat) : Turn P w K tg (Itr lo n) [it] it (fun i h=>IsRangeIter h it (lo + (i : Nat) * 1) ((n : Int) - (i : Nat)) 1) where
  mem:=by simp
  obj:=fun i h st b hb=>by
    have e : b = it:=by simpa using hb
    subst e
    exact ⟨_,st,fun v z=>by
      have z' : Data.fields _ = Data.cell v:=z
      cases z'⟩
  keep:=fun i h h' st k=>k it (by simp) _ st
  item:=by
    intro X hP hw hK hc i pins s σ H E I hf st hg
    subst hP hw hK
    obtain ⟨f0,f1,f2,f3,f4,f5⟩:=hf it (by simp)
    have W:=Walks.range (prog:=X.prog) (w:=X.w) (I.ok.hd hc) it lo 1 n
    refine W.item i s _ _ hg st fun v h' tk hv st' kk=>?_
    obtain ⟨t,rfl⟩:=hv
    have I1 : Inv X pins σ H { s with heap:=h',toks:=tk }:=I.turned (fun b o hb e=>kk b o (by simpa using hb) e) f0 f1 f3 f4 f5
    refine ⟨_,rfl,go_of (s:={ s with heap:=h',toks:=tk }) (n := "range_iterator") st' rfl rfl (by decide) ⟨.int (lo + i),H,I1,⟨t,?_⟩,⟨rfl,rfl⟩,st',fun b hb=>(hf b hb).1⟩⟩
    rw [Int.mul_one]
  done:=by
    intro X hP hw hK hc i pins s σ H E I hf st hg
    subst hP hw hK
    obtain ⟨f0,f1,f2,f3,f4,f5⟩:=hf it (by simp)
    exact wpAny_pyNext_range_end (I.ok.hd hc) st (by have : n <= i:=hg; omega) fun h' eb=>⟨rfl,I.turned (t':=s.toks) (fun b o hb e=>eb b o hb e) f0 f1 f3 f4 f5⟩
  self:=fun _ _ _ _ _ st h=>wpAny_pyIter_rangeiter st h
end L2
namespace L2
open PySem PySem.Spec PyProof.Rows
section
variable {X : Cx} {tg : Expr}
def iList (K : PySem.W.Frag) (tl : TE) : TI:=fun σ H R=>tl σ H fun x H1=>∃ a,x = .ref a /\ (∃ xs,SqL K H1 a xs) /\ R (Itl K a) H1
def iTup (K : PySem.W.Frag) (tl : TE) : TI:=fun σ H R=>tl σ H fun x H1=>∃ a,x = .ref a /\ (∃ xs,SqT K H1 a xs) /\ R (Itt K a) H1
theorem pi_list {l : Expr} {tl : TE} (hl : PE X l tl) : PI X tg l (iList X.K tl):=by
  intro pins s σ H R I h
  refine thn (hl pins s σ H _ I h) fun v s1 ⟨x,H1,I1,r1,q1⟩=>?_
  obtain ⟨a,e,⟨xs,hq⟩,q⟩:=q1
  subst e
  cases r1
  obtain ⟨its,rv,p,hz⟩:=I1.list hq
  refine wpAny_pyIter_list p.isList ?_
  refine ⟨s1.heap.objs.size,[s1.heap.objs.size],_,_,H1,rfl,I1.kept (t':=s1.toks) fun b o e=>Heap.get?_push_of_some _ e,turn_list a _,⟨_,Heap.get?_push_size _ rfl,rfl,rfl⟩,fun b hb=>?_,q⟩
  have e : b = s1.heap.objs.size:=by simpa using hb
  subst e
  exact I1.fpOk (Nat.le_refl _) (I1.hok.fresh (Nat.le_refl _))
theorem pi_tup {l : Expr} {tl : TE} (hl : PE X l tl) : PI X tg l (iTup X.K tl):=by
  intro pins s σ H R I h
  refine thn (hl pins s σ H _ I h) fun v s1 ⟨x,H1,I1,r1,q1⟩=>?_
  obtain ⟨a,e,⟨xs,hq⟩,q⟩:=q1
  subst e
  cases r1
  obtain ⟨its,rv,p,hz⟩:=I1.tuple hq
  refine wpAny_pyIter_tuple (show s1.heap.IsTuple a its.toArray from p) ?_
  refine ⟨s1.heap.objs.size,[s1.heap.objs.size],_,_,H1,rfl,I1.kept (t':=s1.toks) fun b o e=>Heap.get?_push_of_some _ e,turn_tuple a _,⟨_,Heap.get?_push_size _ rfl,rfl,rfl⟩,fun b hb=>?_,q⟩
  have e : b = s1.heap.objs.size:=by simpa using hb
  subst e
  exact I1.fpOk (Nat.le_refl _) (I1.hok.fresh (Nat.le_refl _))
theorem range_it {pins : List (Addr × Obj)} {σ : St} {H : Hp} {s : Shared} {R : It -> Hp -> Prop} {E : Value -> Shared -> Prop} {lo hi : Int} {t u v : Tok} {tk : Nat} (I : Inv X pins σ H s) (h1 : -(2 ^ 62) <= lo) (h2 : lo < 2 ^ 62) (h3 : -(2 ^ 62) <= hi) (h4 : hi < 2 ^ 62)
    (q : R (Itr lo (hi - lo).toNat) H) : wpAny (model X.prog X.w) X.A (pyIter (.ref s.heap.objs.size)) (PIE X pins σ tg R) E { s with heap:=s.heap.push { cls:=.type "range",data:=.fields #[.int lo t,.int hi u,.int 1 v] },toks:=tk }:=by
  refine wpAny_pyIter_range (IsRange.new ..) (small_one h1 h2 h3 h4) ?_
  have I1 : Inv X pins σ H { s with heap:=s.heap.push { cls:=.type "range",data:=.fields #[.int lo t,.int hi u,.int 1 v] },toks:=tk }:=I.kept fun b o e=>Heap.get?_push_of_some _ e
  refine ⟨(s.heap.push { cls:=.type "range",data:=.fields #[.int lo t,.int hi u,.int 1 v] }).objs.size,[(s.heap.push { cls:=.type "range",data:=.fields #[.int lo t,.int hi u,.int 1 v] }).objs.size],_,_,H,rfl,
    I1.kept (t':=tk) fun b o e=>Heap.get?_push_of_some _ e,turn_range _ lo (hi - lo).toNat,?_,fun b hb=>?_,q⟩
  · have e1 : lo + ((0 : Nat) : Int) * 1 = lo:=by simp
    have e2 : (((hi - lo).toNat : Nat) : Int) - ((0 : Nat) : Int) = Builtin.Range.rangeSize lo hi 1:=by rw [rangeSize_one]; split <;> omega
    show IsRangeIter _ _ (lo + ((0 : Nat) : Int) * 1) ((((hi - lo).toNat : Nat) : Int) - ((0 : Nat) : Int)) 1
    rw [e1,e2]
    exact Heap.get?_push_size _ rfl
  · have e : b = (s.heap.push { cls:=.type "range",data:=.fields #[.int lo t,.int hi u,.int 1 v] }).objs.size:=by simpa using hb
    subst e
    exact I1.fpOk (Nat.le_refl _) (I1.hok.fresh (Nat.le_refl _))
def iRng1 (ta : TA) : TI:=fun σ H R=>ta σ H fun vs H1=>∃ j : Int,vs = [.int j] /\ -(2 ^ 62) <= j /\ j < 2 ^ 62 /\ R (Itr 0 j.toNat) H1
theorem pi_range1 {a : Expr} {ta : TA} {p pos : Pos} (hg : Gl X "range") (hm : X.mg "range" = none) (ha : PA X [a] ta) (hs : starEach [a] X.env = [(false,eval a X.env)]:=by rfl) : PI X tg (.Call (.Name "range" p) [a] [] pos) (iRng1 ta):=by
  intro pins s σ H R I h
  refine Call_ (ld_blt I hg hm boot_range (PyProof.Rows.callWith_type1 (thn (ha pos pins s σ H _ I h) fun us s1 ⟨vs,H1,I1,r1,q1⟩=>?_) hs rfl))
  obtain ⟨j,e,q1,q2,q⟩:=q1
  subst e
  cases r1 with
  | cons r rr=>
    cases rr
    obtain ⟨t,rfl⟩:=r
    exact call_range_1 (range_it I1 (by omega) (by omega) q1 q2 (by simpa using q))
def tFor (wi : TI) (g : TG) (tb : TS) : TS:=fun D σ H=>wi σ H fun J H1=>∃ W : Nat -> Nat -> St -> Hp -> Prop,(∃ m,W 0 m σ H1) /\ ∀ i m σ H,W i m σ H ->
  (J.stop i H /\ D.nx σ H) \/ (J.go i H /\ ∃ N : St -> Hp -> Prop,(∀ σ' H',N σ' H' -> ∃ m',m' < m /\ W (i + 1) m' σ' H') /\ ∀ x H',J.yld i H x H' -> g x σ H' fun σ2 H2=>tb { D with nx:=N,ct:=N,bk:=D.nx } σ2 H2)
def pinsAt (fp : List Addr) (h : Heap) : List (Addr × Obj):=fp.filterMap fun b=>(h.get? b).map fun o=>(b,o)
theorem mem_pinsAt {fp : List Addr} {h : Heap} {b : Addr} {o : Obj} (hb : b ∈ fp) (e : h.get? b = some o) : (b,o) ∈ pinsAt fp h:=List.mem_filterMap.mpr ⟨b,hb,by rw [e]; rfl⟩
theorem of_pinsAt {fp : List Addr} {h : Heap} {p : Addr × Obj} (hp : p ∈ pinsAt fp h) : p.1 ∈ fp /\ h.get? p.1 = some p.2:=by
  obtain ⟨b,hb,e⟩:=List.mem_filterMap.mp hp
  cases q : h.get? b with
  | none=>rw [q] at e; cases e
  | some o=>
    rw [q] at e
    have e' : (b,o) = p:=Option.some.inj e
    subst e'
    exact ⟨hb,q⟩
theorem Inv.pinned {pins : List (Addr × Obj)} {σ : St} {H : Hp} {s : Shared} {fp : List Addr} (I : Inv X pins σ H s) (hf : ∀ b ∈ fp,FpOk X pins H b) (ho : ∀ b ∈ fp,∃ o,s.heap.get? b = some o /\ ∀ v,o.data ≠ .cell v) : Inv X (pins ++ pinsAt fp s.heap) σ H s:=
  I.pins_of fun p hp=>(List.mem_append.mp hp).elim (fun z=>I.pin p (List.mem_append_right _ z)) fun z=>by
    obtain ⟨hb,e⟩:=of_pinsAt z
    obtain ⟨f0,f1,f2,_⟩:=hf p.1 hb
    obtain ⟨o,e',d⟩:=ho p.1 hb
    rw [e] at e'; cases e'
    exact ⟨e,f0,f1,f2,d⟩
theorem Inv.unpinned {pins pl : List (Addr × Obj)} {σ : St} {H : Hp} {s : Shared} (I : Inv X (pins ++ pl) σ H s) : Inv X pins σ H s:=I.pins_of fun p hp=>I.pin p (List.mem_append_right _ (List.mem_append_left _ hp))
theorem ps_for {iter : Expr} {body : List Stmt} {wi : TI} {g : TG} {tb : TS} {pos : Pos} (hp : PassesOwn (model X.prog X.w) X.A X.env X.xe) (hc : X.calm = true) (hi : PI X tg iter wi) (hg : PG X tg g) (hb : PSs X body tb)
    (hs : ∀ x,foldedSetIterable iter X.env x = pure x:=by intro _; rfl) : PS X (.For tg iter body [] pos) (tFor wi g tb):=by
  intro pins s σ H D I h
  refine wpAny_For (thn (hi pins s σ H _ I h) fun v s1 h1=>thn h1 fun itv s2 h2=>?_) hs
  obtain ⟨it,fp,tn,J,H2,e,I2,T,st2,f2,W,⟨m0,w0⟩,turn⟩:=h2
  subst e
  have stat : ∀ {H' : Hp},(∀ b ∈ fp,H' b = none) -> ∀ b ∈ fp,FpOk X pins H' b:=fun hn b hb=>⟨hn b hb,(f2 b hb).2⟩
  refine codeAny_forLoop_any (fun n s'=>∃ i σ' H',Inv X pins σ' H' s' /\ tn i s'.heap /\ (∀ b ∈ fp,H' b = none) /\ W i n σ' H') ?_ m0 ⟨0,σ,H2,I2,st2,fun b hb=>(f2 b hb).1,w0⟩
  rintro n s3 ⟨i,σ3,H3,I3,st3,fr3,w3⟩
  rcases turn i n σ3 H3 w3 with ⟨stop,qn⟩ | ⟨go,N,hN,step⟩
  · refine wpAny_passesOwn hp (thn (T.done X rfl rfl rfl hc i pins s3 σ3 H3 X.xe I3 (stat fr3) st3 stop) fun r s4 ⟨hr,I4⟩=>?_)
    subst hr
    exact wpAny_execs_nil ⟨σ3,H3,I4,qn⟩
  · refine wpAny_passesOwn hp (thn (T.item X rfl rfl rfl hc i pins s3 σ3 H3 X.xe I3 (stat fr3) st3 go) fun r s4 ⟨u,hr,h4⟩=>?_)
    subst hr
    refine wpAny_passesOwn hp (thn h4 fun _ s5 ⟨x,H5,I5,r5,y5,st5,fr5⟩=>?_)
    have I5':=I5.pinned (stat fr5) (T.obj _ _ st5)
    refine wpAny_passesOwn hp (thn (hg _ s5 σ3 H5 x u _ I5' r5 (step x H5 y5)) fun _ s6 ⟨σ6,H6,I6,q6⟩=>?_)
    refine wpAny_passesOwn hp (thn (hb _ s6 σ6 H6 _ I6 q6) fun f s7 q7=>?_)
    have again : ∀ {σ7 : St} {H7 : Hp},Inv X (pins ++ pinsAt fp s5.heap) σ7 H7 s7 -> N σ7 H7 -> ∃ m,m < n /\ ∃ i σ' H',Inv X pins σ' H' s7 /\ tn i s7.heap /\ (∀ b ∈ fp,H' b = none) /\ W i m σ' H':=fun {σ7 H7} I7 n7=>by
      obtain ⟨m',hm,w7⟩:=hN σ7 H7 n7
      refine ⟨m',hm,i + 1,σ7,H7,I7.unpinned,T.keep _ _ _ st5 fun b hb o e=>(I7.pin (b,o) (List.mem_append_right _ (List.mem_append_right _ (mem_pinsAt hb e)))).1,fun b hb=>?_,w7⟩
      obtain ⟨o,e,d⟩:=T.obj _ _ st5 b hb
      exact (I7.pin (b,o) (List.mem_append_right _ (List.mem_append_right _ (mem_pinsAt hb e)))).2.1
    cases f with
    | next=>obtain ⟨σ7,H7,I7,n7⟩:=q7; exact again I7 n7
    | cont=>obtain ⟨σ7,H7,I7,n7⟩:=q7; exact again I7 n7
    | brk=>obtain ⟨σ7,H7,I7,q7⟩:=q7; exact ⟨σ7,H7,I7.unpinned,q7⟩
    | ret v=>obtain ⟨x7,σ7,H7,I7,r7,q7⟩:=q7; exact ⟨x7,σ7,H7,I7.unpinned,r7,q7⟩
end
end L2
namespace L2
open PySem PySem.Spec PyProof.Rows
abbrev R2:=V -> V -> Hp -> VK -> Prop
def OpR (X : Cx) (f : Value -> Value -> Sem Value) (r : R2) : Prop:=
  ∀ (pins : List (Addr × Obj)) (s : Shared) (σ : St) (H : Hp) (x y : V) (v u : Value) (Q : VK),Inv X pins σ H s -> RelV x v -> RelV y u -> r x y H Q ->
    wpAny (model X.prog X.w) X.A (f v u) (EP X pins σ Q) X.xe s
def UnR (X : Cx) (f : Value -> Sem Value) (r : V -> Hp -> VK -> Prop) : Prop:=
  ∀ (pins : List (Addr × Obj)) (s : Shared) (σ : St) (H : Hp) (x : V) (v : Value) (Q : VK),Inv X pins σ H s -> RelV x v -> r x H Q ->
    wpAny (model X.prog X.w) X.A (f v) (EP X pins σ Q) X.xe s
def CallR (X : Cx) (f : Value) (r : List V -> Hp -> VK -> Prop) : Prop:=
  ∀ (pins : List (Addr × Obj)) (s : Shared) (σ : St) (H : Hp) (xs : List V) (us : List Value) (Q : VK),Inv X pins σ H s -> Vals xs us -> r xs H Q ->
    wpAny (model X.prog X.w) X.A (call f us) (EP X pins σ Q) X.xe s
def tOp (r : R2) (ta tb : TE) : TE:=fun σ H Q=>ta σ H fun x H1=>tb σ H1 fun y H2=>r x y H2 Q
def tUn (r : V -> Hp -> VK -> Prop) (ta : TE) : TE:=fun σ H Q=>ta σ H fun x H1=>r x H1 Q
def rI (C : Int -> Int -> Prop) (g : Int -> Int -> V) : R2:=fun x y H Q=>∃ i j,x = .int i /\ y = .int j /\ C i j /\ Q (g i j) H
def rI0 (g : Int -> Int -> V) : R2:=fun x y H Q=>∃ i j,x = .int i /\ y = .int j /\ Q (g i j) H
def rU (g : Int -> V) : V -> Hp -> VK -> Prop:=fun x H Q=>∃ i,x = .int i /\ Q (g i) H
section
variable {X : Cx} {a b c : Expr} {ta tb tc : TE} {pos : Pos}
theorem binT (ha : PE X a ta) (hb : PE X b tb) {pins : List (Addr × Obj)} {s : Shared} {σ : St} {H : Hp} {R : V -> V -> Hp -> Prop} (I : Inv X pins σ H s)
    (h : ta σ H fun x H1=>tb σ H1 fun y H2=>R x y H2) {Q : Value -> Shared -> Prop} {f : Value -> Value -> Sem Value}
    (hf : ∀ v u s2 x y H2,Inv X pins σ H2 s2 -> RelV x v -> RelV y u -> R x y H2 -> wpAny (model X.prog X.w) X.A (f v u) Q X.xe s2) :
    wpAny (model X.prog X.w) X.A (eval a X.env) (fun v s₁=>wpAny (model X.prog X.w) X.A (eval b X.env) (fun u s₂=>wpAny (model X.prog X.w) X.A (f v u) Q X.xe s₂) X.xe s₁) X.xe s:=by
  refine thn (ha pins s σ H _ I h) fun v s1 ⟨x,H1,I1,r1,q1⟩=>?_
  refine thn (hb pins s1 σ H1 _ I1 q1) fun u s2 ⟨y,H2,I2,r2,q2⟩=>?_
  exact hf v u s2 x y H2 I2 r1 r2 q2
theorem pe_op {op : Operator} {r : R2} (ho : OpR X (binaryOp op) r) (ha : PE X a ta) (hb : PE X b tb) : PE X (.BinOp a op b pos) (tOp r ta tb):=by
  intro pins s σ H Q I h
  exact wpAny_BinOp (binT ha hb I h fun v u s2 x y H2 I2 rx ry q=>ho pins s2 σ H2 x y v u Q I2 rx ry q)
theorem pe_un {op : UnaryOp} {r : V -> Hp -> VK -> Prop} (ho : UnR X (unaryOp op) r) (ha : PE X a ta) : PE X (.UnaryOp op a pos) (tUn r ta):=by
  intro pins s σ H Q I h
  exact UnaryOp_ (thn (ha pins s σ H _ I h) fun v s1 ⟨x,H1,I1,r1,q1⟩=>ho pins s1 σ H1 x v Q I1 r1 q1)
theorem opI {f : Value -> Value -> Sem Value} {C : Int -> Int -> Prop} {g : Int -> Int -> Int}
    (rule : ∀ (i j : Int) (t u : Tok) (s : Shared) (Q : Value -> Shared -> Prop) (E : Value -> Shared -> Prop),C i j -> Q (.int (g i j) s.toks) { s with toks:=s.toks + 1 } -> wpAny (model X.prog X.w) X.A (f (.int i t) (.int j u)) Q E s) :
    OpR X f (rI C fun i j=>.int (g i j)):=by
  intro pins s σ H x y v u Q I rx ry h
  obtain ⟨i,j,rfl,rfl,hc,q⟩:=h
  obtain ⟨t,rfl⟩:=rx
  obtain ⟨t',rfl⟩:=ry
  exact rule i j t t' s _ _ hc ⟨.int (g i j),H,I.tok _,⟨_,rfl⟩,q⟩
theorem opI0 {f : Value -> Value -> Sem Value} {g : Int -> Int -> Int}
    (rule : ∀ (i j : Int) (t u : Tok) (s : Shared) (Q : Value -> Shared -> Prop) (E : Value -> Shared -> Prop),Q (.int (g i j) s.toks) { s with toks:=s.toks + 1 } -> wpAny (model X.prog X.w) X.A (f (.int i t) (.int j u)) Q E s) :
    OpR X f (rI0 fun i j=>.int (g i j)):=by
  intro pins s σ H x y v u Q I rx ry h
  obtain ⟨i,j,rfl,rfl,q⟩:=h
  obtain ⟨t,rfl⟩:=rx
  obtain ⟨t',rfl⟩:=ry
  exact rule i j t t' s _ _ ⟨.int (g i j),H,I.tok _,⟨_,rfl⟩,q⟩
theorem opB0 {f : Value -> Value -> Sem Value} {g : Int -> Int -> Bool}
    (rule : ∀ (i j : Int) (t u : Tok) (s : Shared) (Q : Value -> Shared -> Prop) (E : Value -> Shared -> Prop),Q (.bool (g i j)) s -> wpAny (model X.prog X.w) X.A (f (.int i t) (.int j u)) Q E s) :
    OpR X f (rI0 fun i j=>.bl (g i j)):=by
  intro pins s σ H x y v u Q I rx ry h
  obtain ⟨i,j,rfl,rfl,q⟩:=h
  obtain ⟨t,rfl⟩:=rx
  obtain ⟨t',rfl⟩:=ry
  exact rule i j t t' s _ _ ⟨.bl (g i j),H,I,rfl,q⟩
def CDiv (i j : Int) : Prop:=0 < j /\ j < 1073741824
def CPow (i j : Int) : Prop:=0 <= j /\ j <= 1000000 /\ i.natAbs < 2 ^ 64
def CMul (i j : Int) : Prop:=(-(2 ^ 64) < i /\ i < 2 ^ 64) \/ (-(2 ^ 64) < j /\ j < 2 ^ 64)
theorem CMul.ok {i j : Int} (h : CMul i j) : IntMulOk i j:=by
  rcases h with ⟨h1,h2⟩ | ⟨h1,h2⟩
  · exact .of_left (intBits_le_64 h1 h2)
  · exact .of_right (intBits_le_64 h1 h2)
theorem op_add : OpR X (binaryOp .Add) (rI0 fun i j=>.int (i + j)):=opI0 fun _ _ _ _ _ _ _ q=>add_int q
theorem op_sub : OpR X (binaryOp .Sub) (rI0 fun i j=>.int (i - j)):=opI0 fun _ _ _ _ _ _ _ q=>sub_int q
theorem op_mul : OpR X (binaryOp .Mult) (rI CMul fun i j=>.int (i * j)):=opI fun _ _ _ _ _ _ _ hc q=>mul_int q hc.ok
theorem op_fdiv : OpR X (binaryOp .FloorDiv) (rI CDiv fun i j=>.int (i / j)):=opI fun i j _ _ _ _ _ hc q=>by
  have h1 : (0 : Int) < j:=hc.1
  have h2 : j < 1073741824:=hc.2
  exact floordiv_int (by omega) (by rw [Int.fdiv_eq_ediv_of_nonneg i (by omega)]; exact q) (.inl (PyProof.noPylong_small (by omega)))
theorem op_mod : OpR X (binaryOp .Mod) (rI (fun _ j=>0 < j) fun i j=>.int (i % j)):=opI fun i j _ _ _ _ _ hc q=>by
  have h1 : (0 : Int) < j:=hc
  exact mod_int' (by omega) (by rw [Int.fmod_eq_emod_of_nonneg i (by omega)]; exact q)
theorem op_pow : OpR X (binaryOp .Pow) (rI CPow fun i j=>.int (i ^ j.toNat)):=opI fun _ _ _ _ _ _ _ hc q=>pow_int_small hc.1 hc.2.1 hc.2.2 q
theorem unI {f : Value -> Sem Value} {g : Int -> Int}
    (rule : ∀ (i : Int) (t : Tok) (s : Shared) (Q : Value -> Shared -> Prop) (E : Value -> Shared -> Prop),Q (.int (g i) s.toks) { s with toks:=s.toks + 1 } -> wpAny (model X.prog X.w) X.A (f (.int i t)) Q E s) :
    UnR X f (rU fun i=>.int (g i)):=by
  intro pins s σ H x v Q I rx h
  obtain ⟨i,rfl,q⟩:=h
  obtain ⟨t,rfl⟩:=rx
  exact rule i t s _ _ ⟨.int (g i),H,I.tok _,⟨_,rfl⟩,q⟩
theorem un_neg : UnR X (unaryOp .USub) (rU fun i=>.int (-i)):=unI fun _ _ _ _ _ q=>neg_int q
end
def scal : V -> V -> Bool
  | .non,.non=>true | .non,.int _=>true | .int _,.non=>true | .non,.bl _=>true | .bl _,.non=>true | .non,.str _=>true | .str _,.non=>true
  | .int _,.int _=>true | .bl _,.bl _=>true | .str _,.str _=>true | .byt _,.byt _=>true
  | .int _,.str _=>true | .str _,.int _=>true | .bl _,.str _=>true | .str _,.bl _=>true
  | _,_=>false
def rEq : R2:=fun x y H Q=>scal x y = true /\ Q (.bl (decide (x = y))) H
theorem dec_int {i j : Int} : decide (V.int i = V.int j) = (i == j):=by
  rw [Bool.eq_iff_iff]
  simp
theorem dec_bl {i j : Bool} : decide (V.bl i = V.bl j) = (i == j):=by
  rw [Bool.eq_iff_iff]
  simp
theorem dec_str {i j : Str} : decide (V.str i = V.str j) = (i == j):=by
  rw [Bool.eq_iff_iff]
  simp
theorem dec_byt {i j : Array UInt8} : decide (V.byt i = V.byt j) = (i.toList == j.toList):=by
  rw [Bool.eq_iff_iff]
  cases i
  cases j
  simp
section
variable {X : Cx} {a b c : Expr} {ta tb tc : TE} {pos : Pos}
theorem fin_bl {pins : List (Addr × Obj)} {σ : St} {H : Hp} {s : Shared} {Q : VK} {k k' : Bool} (I : Inv X pins σ H s) (q : Q (.bl k) H) (e : k = k') : EP X pins σ Q (.bool k') s:=by
  subst e
  exact ⟨.bl k,H,I,rfl,q⟩
theorem op_eq : OpR X (compareOp .Eq) rEq:=by
  intro pins s σ H x y v u Q I rx ry h
  obtain ⟨hs,q⟩:=h
  cases x with
  | non=>
    cases rx
    cases y with
    | non=>cases ry; exact PySem.EqNone.eq_none_none (fin_bl I q (by simp))
    | bl j=>cases ry; exact PySem.EqNone.eq_none_bool (fin_bl I q (by simp))
    | int j=>obtain ⟨t',rfl⟩:=ry; exact PySem.EqNone.eq_none_int (fin_bl I q (by simp))
    | str j=>obtain ⟨t',rfl⟩:=ry; exact PySem.EqNone.eq_none_str (fin_bl I q (by simp))
    | _=>exact absurd (show false = true from hs) Bool.false_ne_true
  | bl i=>
    cases rx
    cases y with
    | non=>cases ry; exact PySem.EqNone.eq_bool_none (fin_bl I q (by simp))
    | bl j=>cases ry; exact eq_bool (fin_bl I q dec_bl)
    | str j=>obtain ⟨t',rfl⟩:=ry; exact PySem.EqMixed.eq_bool_str (fin_bl I q (by simp))
    | _=>exact absurd (show false = true from hs) Bool.false_ne_true
  | int i=>
    obtain ⟨t,rfl⟩:=rx
    cases y with
    | non=>cases ry; exact PySem.EqNone.eq_int_none (fin_bl I q (by simp))
    | int j=>obtain ⟨t',rfl⟩:=ry; exact eq_int (fin_bl I q dec_int)
    | str j=>obtain ⟨t',rfl⟩:=ry; exact PySem.EqMixed.eq_int_str (fin_bl I q (by simp))
    | _=>exact absurd (show false = true from hs) Bool.false_ne_true
  | str i=>
    obtain ⟨t,rfl⟩:=rx
    cases y with
    | non=>cases ry; exact PySem.EqNone.eq_str_none (fin_bl I q (by simp))
    | bl j=>cases ry; exact PySem.EqMixed.eq_str_bool (fin_bl I q (by simp))
    | int j=>obtain ⟨t',rfl⟩:=ry; exact PySem.EqMixed.eq_str_int (fin_bl I q (by simp))
    | str j=>obtain ⟨t',rfl⟩:=ry; exact eq_str (fin_bl I q dec_str)
    | _=>exact absurd (show false = true from hs) Bool.false_ne_true
  | byt i=>
    obtain ⟨t,rfl⟩:=rx
    cases y with
    | byt j=>obtain ⟨t',rfl⟩:=ry; exact PySem.W.eq_bytes (fin_bl I q dec_byt)
    | _=>exact absurd (show false = true from hs) Bool.false_ne_true
  | _=>cases y <;> exact absurd (show false = true from hs) Bool.false_ne_true
theorem op_lt : OpR X (compareOp .Lt) (rI0 fun i j=>.bl (decide (i < j))):=opB0 fun _ _ _ _ _ _ _ q=>lt_int q
theorem op_le : OpR X (compareOp .LtE) (rI0 fun i j=>.bl (decide (i <= j))):=opB0 fun _ _ _ _ _ _ _ q=>le_int q
theorem op_gt : OpR X (compareOp .Gt) (rI0 fun i j=>.bl (decide (j < i))):=opB0 fun _ _ _ _ _ _ _ q=>gt_int q
theorem op_ge : OpR X (compareOp .GtE) (rI0 fun i j=>.bl (decide (j <= i))):=opB0 fun _ _ _ _ _ _ _ q=>ge_int q
theorem op_notN : OpR X (compareOp .IsNot) (fun x y H Q=>y = .non /\ Q (.bl (!decide (x = .non))) H):=by
  intro pins s σ H x y v u Q I rx ry h
  obtain ⟨rfl,q⟩:=h
  cases ry
  refine isnot_none_gen (fin_bl I q ?_)
  cases x <;> first
    | (cases rx; rfl)
    | (obtain ⟨t,rfl⟩:=rx; rfl)
theorem OpR.or {f : Value -> Value -> Sem Value} {r r' : R2} (h : OpR X f r) (h' : OpR X f r') : OpR X f (fun x y H Q=>r x y H Q \/ r' x y H Q):=by
  intro pins s σ H x y v u Q I rx ry q
  rcases q with q | q
  · exact h pins s σ H x y v u Q I rx ry q
  · exact h' pins s σ H x y v u Q I rx ry q
theorem nomark (b : Expr) {op : CmpOp} (h : op ≠ .In:=by decide) (h2 : op ≠ .NotIn:=by decide) : behindInMarks op b = false:=by
  have e1 : (op == CmpOp.In) = false:=by cases op <;> first | rfl | exact absurd rfl h
  have e2 : (op == CmpOp.NotIn) = false:=by cases op <;> first | rfl | exact absurd rfl h2
  cases b <;> simp [behindInMarks,e1,e2]
theorem pe_cmpR {op : CmpOp} {r : R2} (ho : OpR X (compareOp op) r) (ha : PE X a ta) (hb : PE X b tb) (hm : behindInMarks op b = false) : PE X (.Compare a [op] [b] pos) (tOp r ta tb):=by
  intro pins s σ H Q I h
  exact wpAny_Compare1 (binT ha hb I h fun v u s2 x y H2 I2 rx ry q=>ho pins s2 σ H2 x y v u Q I2 rx ry q) hm
def tTest (t : TE) : TT:=fun σ H Q=>t σ H fun x H'=>∃ k,x = .bl k /\ Q k H'
theorem pt_cmpR {op : CmpOp} {r : R2} (ho : OpR X (compareOp op) r) (ha : PE X a ta) (hb : PE X b tb) (hm : behindInMarks op b = false) : PT X (.Compare a [op] [b] pos) (tTest (tOp r ta tb)):=by
  intro pins s σ H Q I h
  refine wpAny_isTrue_Compare1 (thn (ha pins s σ H _ I h) fun v s1 ⟨x,H1,I1,r1,q1⟩=>thn (hb pins s1 σ H1 _ I1 q1) fun u s2 ⟨y,H2,I2,r2,q2⟩=>
    thn (ho pins s2 σ H2 x y v u _ I2 r1 r2 q2) fun c s3 ⟨z,H3,I3,r3,k,e,q3⟩=>?_) hm
  subst e
  cases r3
  exact wpAny_truthy_bool ⟨H3,I3,q3⟩
def tChain (r r' : R2) (ta tb tc : TE) : TE:=fun σ H Q=>ta σ H fun x H1=>tb σ H1 fun y H2=>r x y H2 fun z H3=>∃ k,z = .bl k /\
  (if k = true then tc σ H3 fun w' H4=>r' y w' H4 Q else Q (.bl false) H3)
theorem pe_chain {op op' : CmpOp} {r r' : R2} (ho : OpR X (compareOp op) r) (ho' : OpR X (compareOp op') r') (ha : PE X a ta) (hb : PE X b tb) (hc : PE X c tc)
    (hm : lastMarks [op,op'] [b,c] = false:=by with_unfolding_all rfl) : PE X (.Compare a [op,op'] [b,c] pos) (tChain r r' ta tb tc):=by
  intro pins s σ H Q I h
  refine Compare_chain (thn (ha pins s σ H _ I h) fun v s1 ⟨x,H1,I1,r1,q1⟩=>chain_link (thn (hb pins s1 σ H1 _ I1 q1) fun u s2 ⟨y,H2,I2,r2,q2⟩=>
    thn (ho pins s2 σ H2 x y v u _ I2 r1 r2 q2) fun d s3 ⟨z,H3,I3,r3,k,e,q3⟩=>?_)) hm
  subst e
  cases r3
  refine wpAny_truthy_bool ?_
  cases k with
  | false=>exact ite_ff ⟨.bl false,H3,I3,rfl,q3⟩
  | true=>exact ite_tt (chain_last (thn (hc pins s3 σ H3 _ I3 q3) fun w' s4 ⟨z',H4,I4,r4,q4⟩=>ho' pins s4 σ H4 y z' u w' Q I4 r2 r4 q4))
theorem pt_chain {op op' : CmpOp} {r r' : R2} (ho : OpR X (compareOp op) r) (ho' : OpR X (compareOp op') r') (ha : PE X a ta) (hb : PE X b tb) (hc : PE X c tc)
    (hm : lastMarks [op,op'] [b,c] = false:=by with_unfolding_all rfl) : PT X (.Compare a [op,op'] [b,c] pos) (tTest (tChain r r' ta tb tc)):=by
  intro pins s σ H Q I h
  refine isTrue_chain (thn (ha pins s σ H _ I h) fun v s1 ⟨x,H1,I1,r1,q1⟩=>test_link (thn (hb pins s1 σ H1 _ I1 q1) fun u s2 ⟨y,H2,I2,r2,q2⟩=>
    thn (ho pins s2 σ H2 x y v u _ I2 r1 r2 q2) fun d s3 ⟨z,H3,I3,r3,k,e,q3⟩=>?_)) hm
  subst e
  cases r3
  refine wpAny_truthy_bool ?_
  cases k with
  | false=>
    obtain ⟨k',e',q'⟩:=q3
    cases e'
    exact ite_ff ⟨H3,I3,q'⟩
  | true=>
    refine ite_tt (test_last (thn (hc pins s3 σ H3 _ I3 q3) fun w' s4 ⟨z',H4,I4,r4,q4⟩=>thn (ho' pins s4 σ H4 y z' u w' _ I4 r2 r4 q4) fun d' s5 ⟨z2,H5,I5,r5,k2,e2,q5⟩=>?_))
    subst e2
    cases r5
    exact wpAny_truthy_bool ⟨H5,I5,q5⟩
theorem line63 : (sizeLine : Nat) < 2 ^ 63:=by rw [sizeLine_eq]; decide
theorem op_add_str : OpR X (binaryOp .Add) (fun x y H Q=>∃ i j,x = .str i /\ y = .str j /\ i.length + j.length <= sizeLine /\ Q (.str (i ++ j)) H):=by
  intro pins s σ H x y v u Q I rx ry h
  obtain ⟨i,j,rfl,rfl,hz,q⟩:=h
  obtain ⟨t,rfl⟩:=rx
  obtain ⟨t',rfl⟩:=ry
  exact add_str (fun t' tk=>⟨.str (i ++ j),H,I.tok _,⟨_,rfl⟩,q⟩) hz
theorem vals1 {x : V} {us : List Value} (r : Vals [x] us) : ∃ u,us = [u] /\ RelV x u:=by
  cases r with
  | cons r1 r2=>cases r2; exact ⟨_,rfl,r1⟩
theorem vals2 {x y : V} {us : List Value} (r : Vals [x,y] us) : ∃ u w',us = [u,w'] /\ RelV x u /\ RelV y w':=by
  cases r with
  | cons r1 r2=>
    cases r2 with
    | cons r3 r4=>cases r4; exact ⟨_,_,rfl,r1,r3⟩
theorem call_max2 (hc : X.calm = true) : CallR X (.builtin "max") (fun xs H Q=>∃ i j,xs = [.int i,.int j] /\ Q (.int (if j > i then j else i)) H):=by
  intro pins s σ H xs us Q I r h
  obtain ⟨i,j,rfl,q⟩:=h
  obtain ⟨u,w',rfl,⟨t,rfl⟩,⟨t',rfl⟩⟩:=vals2 r
  refine max_two_ints (I.ok.hd hc) fun h' tk k=>⟨_,H,I.kept k,?_,q⟩
  by_cases hj : j > i
  · rw [if_pos hj,if_pos hj]; exact ⟨_,rfl⟩
  · rw [if_neg hj,if_neg hj]; exact ⟨_,rfl⟩
theorem call_min2 (hc : X.calm = true) : CallR X (.builtin "min") (fun xs H Q=>∃ i j,xs = [.int i,.int j] /\ Q (.int (if j < i then j else i)) H):=by
  intro pins s σ H xs us Q I r h
  obtain ⟨i,j,rfl,q⟩:=h
  obtain ⟨u,w',rfl,⟨t,rfl⟩,⟨t',rfl⟩⟩:=vals2 r
  refine min_two_ints (I.ok.hd hc) fun h' tk k=>⟨_,H,I.kept k,?_,q⟩
  by_cases hj : j < i
  · rw [if_pos hj,if_pos hj]; exact ⟨_,rfl⟩
  · rw [if_neg hj,if_neg hj]; exact ⟨_,rfl⟩
end
end L2
namespace L2
open PySem PySem.Spec PyProof.Rows
structure ObjM (h : Heap) (x dx C : Addr) (mA : Str -> Option Value) : Prop where
  obj : h.get? x = some (PySem.W.instObj C dx)
  ns : h.Ns1 dx mA
  ne : dx ≠ x
theorem lookIn_ns {h : Heap} {dx : Addr} {mA : Str -> Option Value} (n : h.Ns1 dx mA) : ∃ od,h.get? dx = some od /\ ∀ name,PySem.W.lookIn name od = some (mA name):=by
  obtain ⟨o,es,ep,ho,hd,hk,_,hm⟩:=n
  refine ⟨o,ho,fun name=>?_⟩
  have e:=hm name
  unfold nsFind findBy at e
  rw [<- Array.find?_toList] at e
  unfold PySem.W.lookIn
  rw [hd]
  dsimp only
  split
  · rename_i y q
    rw [q] at e
    exact congrArg some e
  · rename_i q
    rw [q] at e
    have a : es.toList.any (·.refKey) = false:=by
      rw [List.any_eq_false]
      intro y hy
      obtain ⟨z,t,hkey⟩:=hk y (Array.mem_toList_iff.mp hy)
      simp [DictEntry.refKey,hkey]
    have a' : ¬ es.toList.any (·.refKey) = true:=by rw [a]; exact Bool.false_ne_true
    rw [if_neg a']
    exact congrArg some e
theorem ObjM.look {h : Heap} {x dx C : Addr} {mA : Str -> Option Value} (I : ObjM h x dx C mA) : ∃ od,PySem.W.InstAt h x (PySem.W.instObj C dx) C (some od) /\ ∀ name,PySem.W.lookIn name od = some (mA name):=
  let ⟨od,ho,hl⟩:=lookIn_ns I.ns
  ⟨od,⟨I.obj,rfl,rfl,ho⟩,hl⟩
section
variable {prog : Program} {w : World} {A : Around} {E : Value -> Shared -> Prop} {s : Shared} {K : PySem.W.Frag} {x dx C f : Addr} {mA : Str -> Option Value} {name : Str} {v : Value}
end
section
variable {P : Program} {w : World} {H H' : Hp} {h h' : Heap} {a C dx : Addr} {fs fs' : List (Str × V)}
theorem ins_get (hok : HOk P w H h) (e : H a = some (.ins C dx fs)) : ∃ mA,ObjM h a dx C mA /\ (∀ f,RelO (fs.lookup f) (mA f)) /\ PySem.Within mA (fs.map (·.1)) /\ fs.length <= 1000 /\ H dx = some (.own a):=by
  obtain ⟨d,z,ne,ob,mA,n,r,q⟩:=(show ObjOk P w H h a (.ins C dx fs) from hok a _ e)
  exact ⟨mA,⟨ob,n,ne⟩,r,q,z,d⟩
end
structure Cls (K : PySem.W.Frag) (C : Addr) : Prop where
  pg : PySem.W.plainGet K C Str.empty = true
  hd : PySem.W.hasDictIn K C = true
  po : PySem.W.plainOver K C = true
  sa : PySem.W.findIn K (.ref C) "__setattr__" = some (some (.builtin "object.__setattr__"))
theorem Cls.get {K : PySem.W.Frag} {C : Addr} (c : Cls K C) (f : Str) : PySem.W.plainGet K C f = true:=c.pg
section
variable {X : Cx} {pins : List (Addr × Obj)} {σ : St} {H : Hp} {s : Shared} {a C dx : Addr} {fs : List (Str × V)} {f : Str} {v : V} {A : Around} {E : Value -> Shared -> Prop}
end
section
variable {X : Cx} {o e value : Expr} {f : Str} {pos pos' tpos : Pos} {ta tv : TE}
end
section
variable {X : Cx} {pins : List (Addr × Obj)} {σ : St} {H : Hp} {s : Shared} {A : Around} {E : Value -> Shared -> Prop} {Q : Value -> Shared -> Prop} {c : Value} {b : Bool}
inductive TyOf (K : PySem.W.Frag) (H : Hp) : V -> Value -> Prop where
  | non : TyOf K H .non (.type "NoneType")
  | bl (x : Bool) : TyOf K H (.bl x) (.type "bool")
  | int (i : Int) : TyOf K H (.int i) (.type "int")
  | str (x : Str) : TyOf K H (.str x) (.type "str")
  | flt (x : UInt64) : TyOf K H (.flt x) (.type "float")
  | lst {a : Addr} {xs : List V} (e : H a = some (.lst xs)) : TyOf K H (.ref a) (.type "list")
  | frz {a : Addr} {o : Obj} {xs : List V} (e : H a = some (.frz o (.lst xs))) : TyOf K H (.ref a) (.type "list")
  | tup {a : Addr} {xs : List V} (e : H a = some (.tup xs)) : TyOf K H (.ref a) (.type "tuple")
  | dK {a : Addr} {kvs : List (Key × V)} (e : H a = some (.dK kvs)) : TyOf K H (.ref a) (.type "dict")
  | dT {a : Addr} {kvs : List (List Key × V)} (e : H a = some (.dT kvs)) : TyOf K H (.ref a) (.type "dict")
  | ins {a C dx : Addr} {fs : List (Str × V)} (e : H a = some (.ins C dx fs)) (cl : Cls K C) (ha : PySem.W.findIn K (.ref C) "__class__" = some (some (.builtin "object.__class__")))
      (hn : PySem.W.specialIn K (.builtin "object.__class__") "__get__" = some (some (.builtin "getset_descriptor.__get__"))) (htk : PySem.W.takesIn K (.builtin "object.__class__") = some true)
      (hm : PySem.W.mroIn K C (.type "object") = some true) : TyOf K H (.ref a) (.ref C)
theorem isinst_ok {x : V} {u t : Value} (I : Inv X pins σ H s) (rx : RelV x u) (ty : TyOf X.K H x t) (e : PySem.W.kitOne X.K t c = some b) (h : ∀ tk,Q (.bool b) { s with toks:=tk }) :
    wpAny (model X.prog X.w) A (call (.builtin "isinstance") [u,c]) Q E s:=by
  cases ty with
  | non=>cases (show u = Value.none from rx); exact PySem.W.kia_one PySem.W.kitx_none I.kIn True.intro e (fun z=>nomatch z) h
  | bl y=>cases (show u = Value.bool y from rx); exact PySem.W.kia_one PySem.W.kitx_bool I.kIn True.intro e (fun z=>nomatch z) h
  | int i=>obtain ⟨t,q⟩:=(show ∃ t,u = Value.int i t from rx); cases q; exact PySem.W.kia_one PySem.W.kitx_int I.kIn True.intro e (fun z=>nomatch z) h
  | str y=>obtain ⟨t,q⟩:=(show ∃ t,u = Value.str y t from rx); cases q; exact PySem.W.kia_one PySem.W.kitx_str I.kIn True.intro e (fun z=>nomatch z) h
  | flt y=>obtain ⟨t,q⟩:=(show ∃ t,u = Value.float y t from rx); cases q; exact PySem.W.kia_one PySem.W.kitx_float I.kIn True.intro e (fun z=>nomatch z) h
  | @lst a xs ea=>
    cases (show u = Value.ref a from rx)
    obtain ⟨_,_,n,_,h1⟩:=(show ObjOk X.prog X.w H s.heap a (.lst xs) from I.hok a _ ea)
    exact PySem.W.kia_one PySem.W.kitx_list I.kIn ⟨_,h1,rfl⟩ e (fun z=>nomatch z) h
  | @frz a ob xs ea=>
    cases (show u = Value.ref a from rx)
    obtain ⟨_,_,_,n,_,h1⟩:=(show ObjOk X.prog X.w H s.heap a (.frz ob (.lst xs)) from I.hok a _ ea)
    exact PySem.W.kia_one PySem.W.kitx_list I.kIn ⟨_,h1,rfl⟩ e (fun z=>nomatch z) h
  | @tup a xs ea=>
    cases (show u = Value.ref a from rx)
    obtain ⟨_,_,_,p⟩:=(show ObjOk X.prog X.w H s.heap a (.tup xs) from I.hok a _ ea)
    obtain ⟨o,h1,h2,_⟩:=p
    exact PySem.W.kia_one PySem.W.kitx_tuple I.kIn ⟨o,h1,h2⟩ e (fun z=>nomatch z) h
  | @dK a kvs ea=>
    cases (show u = Value.ref a from rx)
    obtain ⟨_,_,vs,_,p⟩:=(show ObjOk X.prog X.w H s.heap a (.dK kvs) from I.hok a _ ea)
    obtain ⟨o,es,ep,h1,h2,_⟩:=p
    exact PySem.W.kia_one PySem.W.kitx_dict I.kIn ⟨o,h1,h2.1⟩ e (fun z=>nomatch z) h
  | @dT a kvs ea=>
    cases (show u = Value.ref a from rx)
    obtain ⟨_,_,xs,_,o,es,ep,h1,h2,_⟩:=(show ObjOk X.prog X.w H s.heap a (.dT kvs) from I.hok a _ ea)
    exact PySem.W.kia_one PySem.W.kitx_dict I.kIn ⟨o,h1,h2.1⟩ e (fun z=>nomatch z) h
  | @ins a C dx fs ea cl ha hn htk hm=>
    cases (show u = Value.ref a from rx)
    obtain ⟨mA,O,_⟩:=ins_get I.hok ea
    obtain ⟨od,J,_⟩:=O.look
    exact PySem.W.kia_one (PySem.W.kitx_own (cl.get _) cl.hd ha hn htk hm) I.kIn J e (fun z=>nomatch z) h
end
end L2
namespace L2
open PySem PySem.Spec PyProof.Rows
structure Room (k : Nat) (A : Around) : Prop where
  hd : A.handled = none
  dp : A.depth + 3 * k + 5 < recursionLimit
  un : A.units + 16 * k + 200 < cLine
theorem Room.mono {j k : Nat} {A : Around} (r : Room k A) (h : j <= k) : Room j A:=⟨r.hd,by have:=r.dp; omega,by have:=r.un; omega⟩
theorem Room.deeper {k : Nat} {A : Around} (r : Room (k + 1) A) (env : Env) : Room k (A.deeper env):=
  ⟨r.hd,by have:=r.dp; show A.depth + 1 + 3 * k + 5 < _; omega,by have:=r.un; show A.units + 3 + 16 * k + 200 < _; omega⟩
theorem make_depth {A : Around} {C : Addr} {us : List Value} {kw : List (Str × Value)} : (A.under (.builtin "type.__call__" ⟨.ref C :: us,kw⟩)).depth = A.depth + 1:=by
  first | rfl | simp [Around.under,Code.weight,Code.isCreation,Code.isGuard,Code.isCaller,Code.frames,Code.isFrame,guardIds]
theorem make_units {A : Around} {C : Addr} {us : List Value} {kw : List (Str × Value)} : (A.under (.builtin "type.__call__" ⟨.ref C :: us,kw⟩)).units = A.units + 1:=by
  first | rfl | simp [Around.under,Code.cUnits,Code.frames,Code.isFrame]
theorem Room.depth {k : Nat} {A : Around} (r : Room k A) : A.depth < recursionLimit:=by have:=r.dp; omega
theorem Room.units {k : Nat} {A : Around} (r : Room k A) : A.units + 64 < cLine:=by have:=r.un; omega
def tNil : TA:=fun _ H Q=>Q [] H
def tCons (ta : TE) (tr : TA) : TA:=fun σ H Q=>ta σ H fun x H1=>tr σ H1 fun xs H2=>Q (x :: xs) H2
section
variable {X : Cx} {e : Expr} {es : List Expr} {te : TE} {t : TA} {pos : Pos}
theorem pa_nil : PA X [] tNil:=fun _ _ _ _ H Q I h=>Calls.spliced_nil ⟨[],H,I,.nil,h⟩
theorem pa_cons (ha : PE X e te) (hr : PA X es t) (hs : starEach (e :: es) X.env = (false,eval e X.env) :: starEach es X.env:=by rfl) : PA X (e :: es) (tCons te t):=by
  intro pos pins s σ H Q I h
  rw [hs]
  show wpAny _ _ (spliced ((false,eval e X.env) :: backTo pos (starEach es X.env))) _ _ s
  refine Calls.spliced_cons (thn (ha pins s σ H _ I h) fun u s1 ⟨x,H1,I1,r1,q1⟩=>?_)
  exact thn (hr pos pins s1 σ H1 _ I1 q1) fun us s2 ⟨xs,H2,I2,r2,q2⟩=>⟨x :: xs,H2,I2,.cons r1 r2,q2⟩
def tTup (t : TA) : TE:=fun σ H Q=>t σ H fun xs H1=>xs.length <= sizeLine /\ ∀ p,H1 p = none -> Q (.ref p) (upd H1 p (.tup xs))
def tLst (t : TA) : TE:=fun σ H Q=>t σ H fun xs H1=>xs.length <= sizeLine /\ ∀ p,H1 p = none -> Q (.ref p) (upd H1 p (.lst xs))
theorem pe_tup {x1} (h : PA X es t) : PE X (.Tuple es x1 pos) (tTup t):=by
  intro pins s σ H Q I hq
  refine wpAny_Tuple_spliced (thn (h pos pins s σ H _ I hq) fun us s1 ⟨xs,H1,I1,r,z,q⟩=>⟨by rw [<- r.length]; exact z,?_⟩)
  have hf : H1 s1.heap.objs.size = none:=I1.hok.fresh (Nat.le_refl _)
  refine ⟨.ref s1.heap.objs.size,upd H1 s1.heap.objs.size (.tup xs),I1.laid (t':=s1.toks) (fun b u e=>Heap.get?_push_of_some _ e) (Nat.le_refl _) ?_,rfl,q _ hf⟩
  exact ⟨z,us,r,⟨_,Heap.get?_push_size _ rfl,rfl,_,rfl⟩⟩
theorem pe_lst (h : PA X es t) : PE X (.List es pos) (tLst t):=by
  intro pins s σ H Q I hq
  refine wpAny_List_spliced (thn (h pos pins s σ H _ I hq) fun us s1 ⟨xs,H1,I1,r,z,q⟩=>⟨by rw [<- r.length]; exact z,?_⟩)
  have hf : H1 s1.heap.objs.size = none:=I1.hok.fresh (Nat.le_refl _)
  refine ⟨.ref s1.heap.objs.size,upd H1 s1.heap.objs.size (.lst xs),I1.laid (t':=s1.toks) (fun b u e=>Heap.get?_push_of_some _ e) (Nat.le_refl _) ?_,rfl,q _ hf⟩
  exact ⟨z,us,0,r,Heap.get?_push_size _ rfl⟩
end
abbrev Sp:=List V -> Hp -> VK -> XK -> Prop
abbrev CXT:=List Env -> Hp -> Shared -> XK -> Value -> Shared -> Prop
structure Env0 (P : Program) (w : World) (K : PySem.W.Frag) (mg : Str -> Option Value) (base : Heap) (A : Around) (outer : List Env) (s : Shared) (H : Hp) : Prop where
  frames : A.frames = some outer
  mod : Mod K mg base
  bs : ∀ b o,base.get? b = some o -> s.heap.get? b = some o /\ H b = none
  bsz : base.objs.size <= s.heap.objs.size
  funs : s.heap.FunFrames base outer
  frf : ∀ b ∈ frs outer,H b = none
  hok : HOk P w H s.heap
  bare : AllBare s.gens
def CE (outer : List Env) (P : Program) (w : World) (H : Hp) (s : Shared) (Q : VK) (u : Value) (s' : Shared) : Prop:=
  ∃ v H',s'.os = s.os /\ AllBare s'.gens /\ Un (frs outer) [] H H' s.heap s'.heap /\ HOk P w H' s'.heap /\ RelV v u /\ Q v H'
def CR (CX : CXT) (outer : List Env) (P : Program) (w : World) (H : Hp) (s : Shared) (Q : VK) (E : XK) (r : Result) (s' : Shared) : Prop:=
  match r with
  | .ok (.ret u)=>CE outer P w H s Q u s'
  | .ok _=>False
  | .error e=>CX outer H s E e s'
structure FnOk (P : Program) (w : World) (K : PySem.W.Frag) (mg : Str -> Option Value) (base : Heap) (CX : CXT) (k : Nat) (f : Addr) (fd : FuncData) (ps : List Str) (sp : Sp) : Prop where
  len : ∀ vs H Q E,sp vs H Q E -> vs.length = ps.length
  run : ∀ (A : Around) (outer : List Env) (s : Shared) (H : Hp) (args : Args) (us : List Value) (vs : List V) (Q : VK) (E : XK),Room k A -> Env0 P w K mg base A outer s H -> BindsTo s fd args (ps.zip us) -> Vals vs us -> sp vs H Q E ->
    codeAny (model P w) A (.call (.ref f) args) (CR CX outer P w H s Q E) s
theorem FnOk.imp {P : Program} {w : World} {K : PySem.W.Frag} {mg : Str -> Option Value} {base : Heap} {CX : CXT} {k : Nat} {f : Addr} {fd : FuncData} {ps : List Str} {sp sp' : Sp} (F : FnOk P w K mg base CX k f fd ps sp)
    (h : ∀ vs H Q E,sp' vs H Q E -> sp vs H Q E) : FnOk P w K mg base CX k f fd ps sp':=
  ⟨fun vs H Q E q=>F.len vs H Q E (h _ _ _ _ q),fun A outer s H args us vs Q E hr he hb hv hs=>F.run A outer s H args us vs Q E hr he hb hv (h _ _ _ _ hs)⟩
section
variable {X : Cx} {pins : List (Addr × Obj)} {σ : St} {H : Hp} {s s' : Shared}
theorem Inv.env0 (I : Inv X pins σ H s) : Env0 X.prog X.w X.K X.mg X.base X.A X.stack s H:=
  ⟨I.ok.frames,I.ok.mod,I.bs,Nat.le_trans I.ok.bsz I.sz,I.stack,I.stkFree,I.hok,I.bare⟩
theorem Inv.after {Q : VK} {u : Value} (I : Inv X pins σ H s) (h : CE X.stack X.prog X.w H s Q u s') : EP X pins σ Q u s':=by
  obtain ⟨v,H',os,bare,un,hok,r,q⟩:=h
  obtain ⟨hh,g,d,t,os'⟩:=s'
  obtain rfl : os' = s.os:=os
  exact ⟨v,H',I.call (h':=hh) (g':=g) (d':=d) (t':=t) (ch:=[]) un hok bare (fun b z=>absurd z (by simp)),r,q⟩
end
def tCall (sp : Sp) (dvs : List V) (E : XK) (t : TA) : TE:=fun σ H Q=>t σ H fun vs H1=>sp (vs ++ dvs) H1 Q E
def Binds (K : PySem.W.Frag) (fd : FuncData) (ps : List Str) (ds : List Value) : Prop:=
  ∀ (s : Shared) (us : List Value),K.In s.heap -> (us ++ ds).length = ps.length -> BindsTo s fd ⟨us,[]⟩ (ps.zip (us ++ ds))
theorem Binds.all {K : PySem.W.Frag} {fd : FuncData} {ps : List Str} (h : ∀ us : List Value,us.length = ps.length -> bindArgs fd ⟨us,[]⟩ = pure (ps.zip us)) : Binds K fd ps []:=fun s us _ hl=>by
  rw [List.append_nil] at hl ⊢
  exact .of_eq (h us hl)
def Passes (CX : CXT) (X : Cx) (E : XK) : Prop:=∀ (pins : List (Addr × Obj)) (σ : St) (H : Hp) (s : Shared) (e : Value) (s' : Shared),Inv X pins σ H s -> CX X.stack H s E e s' -> X.xe e s'
section
variable {X : Cx} {CX : CXT} {k : Nat} {f C : Addr} {fd : FuncData} {ps : List Str} {sp : Sp} {dvs : List V} {ds : List Value} {E : XK} {x m : Str} {p pos apos : Pos} {e o : Expr} {es : List Expr} {ta : TE} {t : TA}
theorem run_fn {pins : List (Addr × Obj)} {σ : St} {H : Hp} {s : Shared} {Q : VK} {us : List Value} {vs : List V} (F : FnOk X.prog X.w X.K X.mg X.base CX k f fd ps sp) (hr : Room k X.A) (hb : Binds X.K fd ps ds) (hd : Vals dvs ds) (hx : Passes CX X E)
    (I : Inv X pins σ H s) (r : Vals vs us) (h : sp (vs ++ dvs) H Q E) : wpAny (model X.prog X.w) X.A (call (.ref f) us) (EP X pins σ Q) X.xe s:=by
  have r2 : Vals (vs ++ dvs) (us ++ ds):=r.append hd
  have hl : (us ++ ds).length = ps.length:=by rw [<- r2.length]; exact F.len _ _ _ _ h
  refine wpAny_call (codeAny_mono (F.run X.A X.stack s H ⟨us,[]⟩ (us ++ ds) (vs ++ dvs) Q E hr I.env0 (hb s us I.kIn hl) r2 h) fun r s' hq=>?_)
  cases r with
  | error e=>exact hx pins σ H s e s' I hq
  | ok fl=>
    cases fl with
    | ret u=>exact I.after hq
    | next=>exact False.elim hq
    | brk=>exact False.elim hq
    | cont=>exact False.elim hq
theorem pe_call (F : FnOk X.prog X.w X.K X.mg X.base CX k f fd ps sp) (hr : Room k X.A) (hg : Gl X x) (hm : X.mg x = some (.ref f)) (hk : PySem.W.keepIn X.K (.ref f) = true) (hb : Binds X.K fd ps ds) (hd : Vals dvs ds) (hx : Passes CX X E)
    (ha : PA X (e :: es) t) (hdb : (x == ("__debug__" : Str)) = false:=by decide) (he : starEach (e :: es) X.env = (false,eval e X.env) :: starEach es X.env:=by rfl) (hpl : (backTo pos (starEach es X.env)).any (·.1) = false:=by rfl) :
    PE X (.Call (.Name x p) (e :: es) [] pos) (tCall sp dvs E t):=by
  intro pins s σ H Q I h
  refine wpAny_Call_Name_kw (ld_glob I hg hm ?_ hdb)
  refine PySem.W.callWith_K (h₀:=X.base) I.ok.mod.kin hk (thn (ha pos pins s σ H _ I h) fun us s1 ⟨vs,H1,I1,r,q⟩=>⟨I1.kIn,?_⟩) he hpl
  exact run_fn F hr hb hd hx I1 r q
end
section
variable {X : Cx} {CX : CXT} {k : Nat} {f C : Addr} {fd : FuncData} {ps ks : List Str} {sp : Sp} {E : XK} {x m : Str} {p pos apos kpos : Pos} {e o : Expr} {es : List Expr} {kws : List Keyword} {te ta : TE} {t tk : TA} {nm : Option Str}
variable {g : List Value -> List Value -> List Value} {gV : List V -> List V -> List V}
end
structure FnScope (N P : List Str) (sc : Scope) : Prop where
  kind : sc.kind = .function
  co : sc.isCoroutine = false
  gen : sc.isGenerator = false
  nd : N.Nodup
  pre : N.take P.length = P
  par : ∀ x ∈ P,sc.names.lookup x = some .local \/ sc.names.lookup x = some .cell
  nofree : ∀ y ∈ sc.names,y.2 ≠ .free
theorem bindL_out {kindOf : Str -> Option NameKind} {x : Str} : ∀ {binds : List (Str × Value)} {m : Str -> Option Value},(∀ v,(x,v) ∉ binds) -> bindL kindOf binds m x = m x
  | [],_,_=>rfl
  | (n,v) :: r,m,h=>by
    unfold bindL
    rw [bindL_out fun w hw=>h w (List.mem_cons_of_mem _ hw)]
    split
    · have : x ≠ n:=by rintro rfl; exact h v List.mem_cons_self
      simp [this]
    · rfl
theorem bindC_out {kindOf : Str -> Option NameKind} {x : Str} : ∀ {binds : List (Str × Value)} {m : Str -> Option Value},(∀ v,(x,v) ∉ binds) -> bindC kindOf binds m x = m x
  | [],_,_=>rfl
  | (n,v) :: r,m,h=>by
    unfold bindC
    rw [bindC_out fun w hw=>h w (List.mem_cons_of_mem _ hw)]
    split
    · rfl
    · have : x ≠ n:=by rintro rfl; exact h v List.mem_cons_self
      simp [this]
theorem bindL_get {kindOf : Str -> Option NameKind} {x : Str} {v : Value} : ∀ {P : List Str} {vs : List Value} {i : Nat} {m : Str -> Option Value},P.Nodup -> P[i]? = some x -> vs[i]? = some v -> kindOf x = some .local ->
    bindL kindOf (P.zip vs) m x = some v
  | [],_,_,_,_,h,_,_=>by simp at h
  | _ :: _,[],_,_,_,_,h,_=>by simp at h
  | p :: P,w :: vs,0,m,nd,h1,h2,hk=>by
    simp at h1 h2; subst h1; subst h2
    show bindL kindOf ((p,w) :: P.zip vs) m p = _
    unfold bindL
    rw [bindL_out fun v hv=>(List.nodup_cons.mp nd).1 (List.of_mem_zip hv).1,if_pos hk]
    simp
  | p :: P,w :: vs,i + 1,m,nd,h1,h2,hk=>by
    show bindL kindOf ((p,w) :: P.zip vs) m x = _
    unfold bindL
    exact bindL_get (i:=i) (List.nodup_cons.mp nd).2 (by simpa using h1) (by simpa using h2) hk
theorem bindC_get {kindOf : Str -> Option NameKind} {x : Str} {v : Value} : ∀ {P : List Str} {vs : List Value} {i : Nat} {m : Str -> Option Value},P.Nodup -> P[i]? = some x -> vs[i]? = some v -> kindOf x ≠ some .local ->
    bindC kindOf (P.zip vs) m x = some v
  | [],_,_,_,_,h,_,_=>by simp at h
  | _ :: _,[],_,_,_,_,h,_=>by simp at h
  | p :: P,w :: vs,0,m,nd,h1,h2,hk=>by
    simp at h1 h2; subst h1; subst h2
    show bindC kindOf ((p,w) :: P.zip vs) m p = _
    unfold bindC
    rw [bindC_out fun v hv=>(List.nodup_cons.mp nd).1 (List.of_mem_zip hv).1,if_neg hk]
    simp
  | p :: P,w :: vs,i + 1,m,nd,h1,h2,hk=>by
    show bindC kindOf ((p,w) :: P.zip vs) m x = _
    unfold bindC
    exact bindC_get (i:=i) (List.nodup_cons.mp nd).2 (by simpa using h1) (by simpa using h2) hk
def start (N : List Str) (vs : List V) : St:=vs.map some ++ List.replicate (N.length - vs.length) none
def cxOf (CX : CXT) (P : Program) (w : World) (K : PySem.W.Frag) (mg : Str -> Option Value) (base : Heap) (N : List Str) (qual : Str) (scope : Scope) (f : Addr) (cd : Value) (A : Around) (outer : List Env) (s : Shared) (H : Hp) (E : XK) : Cx where
  prog:=P
  w:=w
  K:=K
  mg:=mg
  base:=base
  A:=A.deeper (envOfC qual scope s.heap.objs.size f cd)
  N:=N
  s₀:=s
  H₀:=H
  env:=envOfC qual scope s.heap.objs.size f cd
  outer:=outer
  stack:=envOfC qual scope s.heap.objs.size f cd :: outer
  ex:=[]
  calm:=true
  fn:=fun _=>true
  pn:=[]
  xe:=fun e s'=>wpAny (model P w) (A.deeper (envOfC qual scope s.heap.objs.size f cd)) (leaving (envOfC qual scope s.heap.objs.size f cd) e) (fun _ s''=>CX outer H s E e s'') (fun e' s''=>CX outer H s E e' s'') s'
theorem cell_has {sc : Scope} {n : Nat} {x : Str} (h : sc.names.lookup x = some .cell) : ∃ c,(cellsFrom n sc.names []).lookup x = some c:=by
  have q:=PySem.W.cellsFrom_some sc.names n [] (.inl h)
  exact Option.isSome_iff_exists.mp q
theorem inv_start {CX : CXT} {P : Program} {w : World} {K : PySem.W.Frag} {mg : Str -> Option Value} {base : Heap} {N ps : List Str} {qual : Str} {scope : Scope} {f : Addr} {cd : Value} {A : Around} {outer : List Env} {s s1 : Shared} {H : Hp} {E : XK} {us : List Value} {vs : List V}
    (S : FnScope N ps scope) (hd : A.handled = none) (e0 : Env0 P w K mg base A outer s H) (hl : vs.length = ps.length) (r : Vals vs us)
    (x : InCallC s s.heap.objs.size (bindL (envOfC qual scope s.heap.objs.size f cd).kindOf (ps.zip us) fun _=>none) (cellsFrom (s.heap.objs.size + 1) scope.names []) (bindC (envOfC qual scope s.heap.objs.size f cd).kindOf (ps.zip us) fun _=>none) s1) :
    Inv (cxOf CX P w K mg base N qual scope f cd A outer s H E) [] (start N vs) H s1:=by
  have hpl : ps.length <= N.length:=by have:=congrArg List.length S.pre; rw [List.length_take] at this; omega
  obtain ⟨h1,tk,rfl,hk⟩:=x.done
  have noA : ∀ b : Addr,b ∉ (cxOf CX P w K mg base N qual scope f cd A outer s H E).ex:=fun b z=>absurd (show b ∈ ([] : List Addr) from z) (by simp)
  refine ⟨⟨e0.mod,S.kind,rfl,rfl,Nat.le_refl _,fun y z c h1 h2=>?_,fun y hy=>?_,fun y c _ h=>?_,fun _=>hd,Around.frames_deeper e0.frames,.inr ⟨rfl,rfl⟩,fun b z=>absurd z (noA b),e0.bs,e0.bsz,fun b _ _=>noA b,fun b z=>absurd z (noA b),e0.funs,e0.frf⟩,
    rfl,e0.bare,Un.kept hk,⟨_,x.toInCall.ns,fun i y v h1 h2 h3=>?_⟩,fun y c h=>⟨_,x.cell y c h⟩,e0.hok.fresh (Nat.le_refl _),fun y c h=>?_,fun p hp=>absurd (show p ∈ ([] : List (Addr × Obj)) from hp) (by simp),e0.hok.kept hk,?_⟩
  · exact name_of_addr x.apart (PySem.mem_of_lookup h1) (PySem.mem_of_lookup h2)
  · have hy : scope.names.lookup y = some .cell \/ scope.names.lookup y = some .free:=hy
    rcases hy with hy | hy
    · exact cell_has hy
    · exact absurd rfl (S.nofree _ (PySem.mem_of_lookup hy))
  · exact Nat.le_of_lt (x.above y c (PySem.mem_of_lookup h))
  · have hi : i < vs.length:=by
      unfold start at h2
      by_cases hi : i < vs.length
      · exact hi
      · rw [List.getElem?_append_right (by simpa using hi)] at h2
        rw [List.getElem?_replicate] at h2
        split at h2 <;> cases h2
    have ha : vs[i]? = some v:=by
      unfold start at h2
      rw [List.getElem?_append_left (by simpa using hi),List.getElem?_map] at h2
      cases e : vs[i]? with
      | none=>rw [e] at h2; cases h2
      | some a=>rw [e] at h2; cases h2; rfl
    obtain ⟨u,hu,rv⟩:=r.get ha
    have hp : ps[i]? = some y:=by
      rw [<- S.pre,List.getElem?_take_of_lt (by omega)]; exact h1
    have ndP : ps.Nodup:=by rw [<- S.pre]; exact S.nd.sublist (List.take_sublist _ _)
    refine ⟨u,rv,?_⟩
    rcases S.par y (List.mem_of_getElem? hp) with k | k
    · exact .inl ⟨k,bindL_get ndP hp hu k⟩
    · obtain ⟨c,e⟩:=cell_has (n:=s.heap.objs.size + 1) k
      refine .inr ⟨.inl k,c,e,?_⟩
      have q:=x.cell y c e
      rw [bindC_get ndP hp hu (by show scope.names.lookup y ≠ _; rw [k]; decide)] at q
      exact q
  · exact e0.hok.fresh (Nat.le_of_lt (x.above y c (PySem.mem_of_lookup h)))
  · unfold start
    show _ = N.length
    rw [List.length_append,List.length_map,List.length_replicate]
    omega
theorem fn_of {CX : CXT} {P : Program} {w : World} {K : PySem.W.Frag} {mg : Str -> Option Value} {base : Heap} {k : Nat} {f : Addr} {name qual : Str} {params : Arguments} {body : List Stmt} {scope : Scope} {dV kV doc pm cdv ct oc : Value} {an od : Option Addr}
    {osl : Array (Option Value)} {N ps : List Str} {sp : Sp} (lk : K.lookup f = some ⟨oc,od,.func (PySem.W.fnOf name qual params body scope dV kV doc pm an cdv ct),osl⟩) (hcd : PySem.W.codeIn K cdv qual = true) (S : FnScope N ps scope)
    (len : ∀ vs H Q E,sp vs H Q E -> vs.length = ps.length)
    (hbody : ∀ (A : Around) (outer : List Env) (s : Shared) (H : Hp) (vs : List V) (Q : VK) (E : XK),Room k (A.deeper (envOfC qual scope s.heap.objs.size f cdv)) -> sp vs H Q E ->
      ∃ t,PSs (cxOf CX P w K mg base N qual scope f cdv A outer s H E) body t /\ t { nx:=fun _ H'=>Q .non H',rt:=Q } (start N vs) H) :
    FnOk P w K mg base CX (k + 1) f (PySem.W.fnOf name qual params body scope dV kV doc pm an cdv ct) ps sp:=by
  refine ⟨len,fun A outer s H args us vs Q E hr e0 hb r hsp=>?_⟩
  have hl:=len _ _ _ _ hsp
  have KX : K.In s.heap:=e0.mod.kin.keeps fun b o e=>(e0.bs b o e).1
  have lim : s.heap.NoLimit:=e0.mod.nolimit.keeps fun b o e=>(e0.bs b o e).1
  have hkind : ∀ y ∈ ps.zip us,scope.names.lookup y.1 = some .local \/ (scope.names.lookup y.1 = some .cell /\ ((cellsFrom (s.heap.objs.size + 1) scope.names []).lookup y.1).isSome = true):=fun ⟨n,v⟩ hy=>by
    rcases S.par n (List.of_mem_zip hy).1 with q | q
    · exact .inl q
    · exact .inr ⟨q,PySem.W.cellsFrom_some _ _ _ (.inl q)⟩
  refine codeAny_call_function hr.depth (KX _ _ lk) rfl S.co S.gen rfl (PySem.W.codeRec_of KX hcd) (hb _ _ _ _ ?_)
  refine wpAny_newFunctionEnv_cells S.kind hkind fun env he s1 x=>?_
  subst he
  refine ⟨lim.keeps x.toInCall.keep,codeAny_func ?_⟩
  obtain ⟨t,ht,hq⟩:=hbody A outer s H vs Q E (hr.deeper _) hsp
  have I : Inv (cxOf CX P w K mg base N qual scope f cdv A outer s H E) [] (start N vs) H s1:=inv_start S hr.hd e0 hl r x
  refine wpAny_mono (ht [] s1 (start N vs) H _ I hq) (fun fl s' hs=>?_) fun e s' hs=>hs
  have fin : ∀ {σ' : St} {H' : Hp} {v : V} {u : Value},Inv (cxOf CX P w K mg base N qual scope f cdv A outer s H E) [] σ' H' s' -> RelV v u -> Q v H' -> CE outer P w H s Q u s':=
    fun {σ' H' v u} J rv q=>⟨v,H',J.os,J.bare,J.base,J.hok,rv,q⟩
  cases fl with
  | ret u=>
    obtain ⟨v,σ',H',J,rv,q⟩:=hs
    exact fin J rv q
  | next=>
    obtain ⟨σ',H',J,q⟩:=hs
    exact fin (v:=V.non) (u:=Value.none) J rfl q
  | brk=>
    obtain ⟨_,_,_,q⟩:=hs
    exact False.elim q
  | cont=>
    obtain ⟨_,_,_,q⟩:=hs
    exact False.elim q
end L2
namespace L2
open PySem PySem.Spec PyProof.Rows
section
variable {X : Cx} {x : Str} {p pos : Pos} {e : Expr} {es : List Expr} {t : TA} {id T : String} {r : List V -> Hp -> VK -> Prop}
def tCB (r : List V -> Hp -> VK -> Prop) (t : TA) : TE:=fun σ H Q=>t σ H fun vs H1=>r vs H1 Q
theorem pe_callB (hc : CallR X (.builtin id) r) (hg : Gl X x) (hm : X.mg x = none) (hv : bootBuiltins x = some (.builtin id)) (ha : PA X (e :: es) t) (hn : x ≠ "__name__" := by decide) (hdb : (x == ("__debug__" : Str)) = false:=by decide)
    (he : starEach (e :: es) X.env = (false,eval e X.env) :: starEach es X.env:=by rfl) (hpl : (backTo pos (starEach es X.env)).any (·.1) = false:=by rfl) : PE X (.Call (.Name x p) (e :: es) [] pos) (tCB r t):=by
  intro pins s σ H Q I h
  refine wpAny_Call_Name_kw (ld_blt I hg hm hv ?_ hn hdb)
  exact PyProof.Rows.callWith_builtin1 (thn (ha pos pins s σ H _ I h) fun us s1 ⟨vs,H1,I1,r1,q1⟩=>hc pins s1 σ H1 vs us Q I1 r1 q1) he hpl
theorem pe_callTy (hc : CallR X (.type T) r) (hg : Gl X x) (hm : X.mg x = none) (hv : bootBuiltins x = some (.type T)) (ha : PA X (e :: es) t) (hn : x ≠ "__name__" := by decide) (hdb : (x == ("__debug__" : Str)) = false:=by decide)
    (he : starEach (e :: es) X.env = (false,eval e X.env) :: starEach es X.env:=by rfl) (hpl : (backTo pos (starEach es X.env)).any (·.1) = false:=by rfl) : PE X (.Call (.Name x p) (e :: es) [] pos) (tCB r t):=by
  intro pins s σ H Q I h
  refine wpAny_Call_Name_kw (ld_blt I hg hm hv ?_ hn hdb)
  exact PyProof.Rows.callWith_type1 (thn (ha pos pins s σ H _ I h) fun us s1 ⟨vs,H1,I1,r1,q1⟩=>hc pins s1 σ H1 vs us Q I1 r1 q1) he hpl
end
end L2
namespace HT
open PySem PyProof.Rows
def lexLt : List Int -> List Int -> Bool
  | [],[]=>false
  | [],_ :: _=>true
  | _ :: _,[]=>false
  | x :: xs,y :: ys=>if x = y then lexLt xs ys else decide (x < y)
theorem lexLt_cons (x y : Int) (xs ys : List Int) : lexLt (x :: xs) (y :: ys) = if x = y then lexLt xs ys else decide (x < y):=rfl
theorem lexLt_nil_nil : lexLt [] [] = false:=rfl
theorem lexLt_nil_cons (y : Int) (ys : List Int) : lexLt [] (y :: ys) = true:=rfl
theorem lexLt_cons_nil (x : Int) (xs : List Int) : lexLt (x :: xs) [] = false:=rfl
theorem eqAt_int (A : Around) (s : Shared) (a : Int) (t : Tok) (c : Int) (u : Tok) : ∃ e,SeqAt.EqAt A s (.int a t) (.int c u) e /\ (e = true <-> a = c):=
  ⟨(a == c),SeqAt.EqAt.int_int a t c u,by simp⟩
theorem rcLt_int (A : Around) (s : Shared) (a : Int) (t : Tok) (c : Int) (u : Tok) (prog : Program) (w : World) (E : Value -> Shared -> Prop) (Q : Value -> Shared -> Prop) (h : Q (.bool (decide (a < c))) s) :
    wpAny (model prog w) A (richCompare .Lt (.int a t) (.int c u)) Q E s:=
  (PyProof.Rows.lt_int h : wpAny (model prog w) A (compareOp .Lt (.int a t) (.int c u)) Q E s)
section
open PySem.SeqAt
open PySem.AutoSeq1 (wpAny_loadPart')
open PySem.MeetsSeq PySem.MeetsSeq2 PySem.MeetsSeq3
theorem tuple_lt_ints (l b : Addr) (items items2 : Array Value) (n n2 : Nat) (dd dd2 : Option Addr) (sl sl2 : Array (Option Value)) (ns ms : List Int) (hi : IntsAre items.toList ns) (hj : IntsAre items2.toList ms) :
    Meets (Builtin.«tuple.__lt__» ⟨[.ref l,.ref b],[]⟩)
      (fun _ R s=>s.heap.get? l = some { cls:=.type "tuple",dict:=dd,data:=.seq items n,slots:=sl } /\ s.heap.get? b = some { cls:=.type "tuple",dict:=dd2,data:=.seq items2 n2,slots:=sl2 } /\
        R (.ok (.ret (.bool (lexLt ns ms)))) s):=
  .of_wp fun prog w A R s h=>by
    obtain ⟨hp,g,d,tk,os⟩:=s; obtain ⟨hl,hb,h⟩:=h
    have f2:=AutoSeq1.sub_tuple_tuple
    have z1 : items.size = ns.length:=by rw [<- hi.length]; simp
    have z2 : items2.size = ms.length:=by rw [<- hj.length]; simp
    wp_walk using wpAny_loadPart' hl,wpAny_loadPart' hb,wpAny_forIn_list _ (fun rest b s'=>b.1 = none /\ s' = ⟨hp,g,d,tk,os⟩ /\ ∃ (vs ws : List Value) (ns' ms' : List Int),rest = vs.zip ws /\
      IntsAre vs ns' /\ IntsAre ws ms' /\ ns'.length + items2.size = ms'.length + items.size /\ R (.ok (.ret (.bool (lexLt ns' ms')))) ⟨hp,g,d,tk,os⟩) _
    case turn=>
      rintro ⟨y,x⟩ rest b s' ⟨hb',rfl,vs,ws,ns',ms',hz,hvi,hwi,hlen,hR⟩
      cases hvi with
      | nil=>rw [List.zip_nil_left] at hz; cases hz
      | cons a t hvi'=>
        cases hwi with
        | nil=>rw [List.zip_nil_right] at hz; cases hz
        | cons c u hwi'=>
          rw [List.zip_cons_cons] at hz
          injection hz with hyx hrest
          injection hyx with hy hx
          subst hy hx
          rw [lexLt_cons] at hR
          simp only [List.length_cons] at hlen
          obtain ⟨e,he,hiff⟩:=eqAt_int A.in1 ⟨hp,g,d,tk,os⟩ a t c u
          refine wpAny_bind (he prog w _ _ ?_)
          cases e with
          | true=>
            rw [if_pos (hiff.mp rfl)] at hR
            wp_walk
            exact ⟨rfl,rfl,_,_,_,_,hrest,hvi',hwi',by omega,hR⟩
          | false=>
            rw [if_neg (fun q=>absurd (hiff.mpr q) Bool.false_ne_true)] at hR
            have hri:=rcLt_int A.in1 ⟨hp,g,d,tk,os⟩ a t c u prog w
            wp_walk using hri
            exact ⟨_,rfl,by simpa using hR⟩
    case fin=>
      rintro ⟨b1,b2⟩ s' ⟨hb',rfl,vs,ws,ns',ms',hz,hvi,hwi,hlen,hR⟩
      simp only at hb'
      subst hb'
      have hv : lexLt ns' ms' = decide (items.size < items2.size):=by
        cases hvi with
        | nil=>
          cases hwi with
          | nil=>
            simp only [List.length_nil] at hlen
            rw [lexLt_nil_nil]
            exact (decide_eq_false (by omega)).symm
          | cons c u hw=>
            simp only [List.length_nil,List.length_cons] at hlen
            rw [lexLt_nil_cons]
            exact (decide_eq_true (by omega)).symm
        | cons a t hv=>
          cases hwi with
          | nil=>
            simp only [List.length_nil,List.length_cons] at hlen
            rw [lexLt_cons_nil]
            exact (decide_eq_false (by omega)).symm
          | cons c u hw=>
            rw [List.zip_cons_cons] at hz
            cases hz
      rw [hv] at hR
      wp_walk
      exact ⟨_,rfl,by simpa [Builtin.Tuple.tupleCompareSizes] using hR⟩
    case h=>
      exact ⟨rfl,rfl,items.toList,items2.toList,ns,ms,rfl,hi,hj,by omega,h⟩
end
section
variable {prog : Program} {w : World} {A : Around} {E : Value -> Shared -> Prop} {s : Shared}
theorem lt_tupInts {l b : Addr} {items items2 : Array Value} {ns ms : List Int} {Q : Value -> Shared -> Prop} (hl : IsTup s.heap l items) (hb : IsTup s.heap b items2) (hi : IntsAre items.toList ns) (hj : IntsAre items2.toList ms)
    (hu : A.units < cLine) (h : Q (.bool (lexLt ns ms)) s) : wpAny (model prog w) A (compareOp .Lt (.ref l) (.ref b)) Q E s:=by
  obtain ⟨⟨cls,dd,data,sl⟩,ho,hc,n,hd⟩:=id hl
  obtain ⟨⟨cls2,dd2,data2,sl2⟩,ho2,hc2,n2,hd2⟩:=id hb
  simp only at hc hd hc2 hd2
  subst hc hd hc2 hd2
  exact richCompare_meets_room (op:=.Lt) ⟨_,ho,rfl⟩ ⟨_,ho2,rfl⟩ PySem.F.slot_tuple_lt PySem.F.entry_tuple_lt (PySem.F.args_tuple_lt_2 _ _) (tuple_lt_ints l b items items2 n n2 dd dd2 sl sl2 ns ms hi hj)
    ⟨ho,ho2,show Value.bool (lexLt ns ms) ≠ Value.notImplemented /\ Q (.bool (lexLt ns ms)) s from ⟨(fun x=>nomatch x),h⟩⟩ hu
theorem cat_tup {t b : Addr} {vs ws : List Value} {Q : Value -> Shared -> Prop} (ht : IsTup s.heap t vs.toArray) (hb : IsTup s.heap b ws.toArray) (hv : vs ≠ [])
    (h1 : ws = [] -> Q (.ref t) s) (h2 : ws ≠ [] -> Q (.ref s.heap.objs.size) { s with heap:=s.heap.push { cls:=.type "tuple",data:=.seq (vs ++ ws).toArray } })
    (hsz : vs.length + ws.length <= sizeLine) : wpAny (model prog w) A (binaryOp .Add (.ref t) (.ref b)) Q E s:=by
  obtain ⟨⟨cls,dd,data,sl⟩,ho,hc,n,hd⟩:=id ht
  obtain ⟨⟨cls2,dd2,data2,sl2⟩,ho2,hc2,n2,hd2⟩:=id hb
  simp only at hc hd hc2 hd2
  subst hc hd hc2 hd2
  have e : vs.toArray ++ ws.toArray = (vs ++ ws).toArray:=by simp
  by_cases hw : ws = []
  · exact concat_meets ⟨_,ho,rfl⟩ ⟨_,ho2,rfl⟩ noFill_tuple_add seq_tuple_add PySem.F.slot_tuple_add PySem.F.entry_tuple_add (PySem.F.args_tuple_add_2 _ _)
      (tuple_addW1 t b vs.toArray ws.toArray n n2 dd dd2 sl sl2 (by simpa using hv) (by simp [hw])) ⟨ho,ho2,h1 hw⟩
  · refine concat_meets ⟨_,ho,rfl⟩ ⟨_,ho2,rfl⟩ noFill_tuple_add seq_tuple_add PySem.F.slot_tuple_add PySem.F.entry_tuple_add (PySem.F.args_tuple_add_2 _ _)
      (tuple_addW2 t b vs.toArray ws.toArray n n2 dd dd2 sl sl2 (by simpa using hv) (by simpa using hw) (by rw [List.size_toArray,List.size_toArray]; exact hsz)) ⟨ho,ho2,?_⟩
    rw [e]
    exact h2 hw
def sIx (n d : Nat) : Option Int -> Nat
  | none=>d
  | some v=>if v < 0 then (v + (n : Int)).toNat else min v.toNat n
theorem sIx_none (n d : Nat) : sIx n d none = d:=rfl
theorem sIx_nat (n d k : Nat) : sIx n d (some (k : Int)) = min k n:=by
  show (if (k : Int) < 0 then ((k : Int) + (n : Int)).toNat else min (k : Int).toNat n) = min k n
  rw [if_neg (by omega),Int.toNat_natCast]
theorem sIx_le (n d : Nat) (hd : d <= n) (o : Option Int) : sIx n d o <= n:=by
  cases o with
  | none=>exact hd
  | some v=>
    show (if v < 0 then (v + (n : Int)).toNat else min v.toNat n) <= n
    by_cases hv : v < 0
    · rw [if_pos hv]; omega
    · rw [if_neg hv]; exact Nat.min_le_right _ _
theorem clip_eq (v : Int) (n d : Nat) : (if v < 0 then max (v + (n : Int)) 0 else min v (n : Int)) = ((sIx n d (some v) : Nat) : Int):=by
  show (if v < 0 then max (v + (n : Int)) 0 else min v (n : Int)) = (((if v < 0 then (v + (n : Int)).toNat else min v.toNat n) : Nat) : Int)
  by_cases hv : v < 0
  · simp only [if_pos hv]; omega
  · simp only [if_neg hv]; omega
theorem adjust_gen (lo hi : Option Int) (n : Nat) : Builtin.Slice.sliceAdjust lo hi 1 (n : Int) = (((sIx n 0 lo : Nat) : Int),((sIx n n hi : Nat) : Int)):=by
  have h1 : ¬ ((1 : Int) < 0):=by omega
  unfold Builtin.Slice.sliceAdjust
  simp only [h1,if_false]
  refine Prod.ext ?_ ?_
  · cases lo with
    | none=>rfl
    | some v=>exact clip_eq v n 0
  · cases hi with
    | none=>rfl
    | some v=>exact clip_eq v n n
theorem places_gen (i j : Nat) : Builtin.Slice.slicePlaces (i : Int) (j : Int) 1 = j - i:=by
  unfold Builtin.Slice.slicePlaces
  have h1 : (1 : Int) > 0:=by omega
  simp only [h1,if_true,Int.ediv_one]
  split <;> omega
theorem slicePart_ {v : Value} {o : Option Int} {Q : Option Int -> Shared -> Prop} (p : IsPart v o) (h : Q o s) : wpAny (model prog w) A (Builtin.Slice.slicePartIndex v) Q E s:=by
  cases p with
  | none=>exact slicePart_none h
  | int i t=>exact slicePart_int h
theorem sliceApplied_gen {sl : Addr} {vl vu : Value} {lo hi : Option Int} {n : Nat} {Q : Int × Int × Nat -> Shared -> Prop} (hs : s.heap.IsSliceOf sl vl vu .none) (pl : IsPart vl lo) (pu : IsPart vu hi)
    (h : Q (((sIx n 0 lo : Nat) : Int),1,sIx n n hi - sIx n 0 lo) s) : wpAny (model prog w) A (Builtin.Slice.sliceApplied (.ref sl) (pure (n : Int))) Q E s:=by
  obtain ⟨os,hos,hcs,hds⟩:=id hs
  unfold Builtin.Slice.sliceApplied Builtin.Slice.sliceFields
  refine wpAny_bind (wpAny_bind (wpAny_field hos hds (x:=vl) rfl (wpAny_bind (wpAny_field hos hds (x:=vu) rfl (wpAny_bind (wpAny_field hos hds (x:=.none) rfl (wpAny_pure ?_)))))))
  refine wpAny_bind (slicePart_none ?_)
  show wpAny _ _ (if ((1 : Int) == 0) = true then _ else _) _ _ s
  rw [if_neg (by decide)]
  refine wpAny_bind (slicePart_ pl (wpAny_bind (slicePart_ pu (wpAny_bind (wpAny_pure ?_)))))
  show wpAny _ _ (match Builtin.Slice.sliceAdjust lo hi 1 (n : Int) with | (lo,hi)=>pure (lo,(1 : Int),Builtin.Slice.slicePlaces lo hi 1)) _ _ s
  rw [adjust_gen lo hi n]
  show wpAny _ _ (pure (((sIx n 0 lo : Nat) : Int),(1 : Int),Builtin.Slice.slicePlaces ((sIx n 0 lo : Nat) : Int) ((sIx n n hi : Nat) : Int) 1)) _ _ s
  rw [places_gen]
  exact wpAny_pure h
theorem pick_gen (xs : Array Value) (i k : Nat) : ((List.range k).filterMap fun (m : Nat)=>xs[((i : Int) + (m : Int) * 1).toNat]?).toArray = ((xs.toList.drop i).take k).toArray:=by
  have e : (fun (m : Nat)=>xs[((i : Int) + (m : Int) * 1).toNat]?) = fun m=>xs[i + m]?:=by
    funext m
    have : ((i : Int) + (m : Int) * 1).toNat = i + m:=by omega
    rw [this]
  rw [e]
  have:=pick_run xs i k
  rw [List.filterMap_map] at this
  have e2 : ((fun x=>xs[x]?) ∘ fun x=>i + x) = fun m=>xs[i + m]?:=rfl
  rw [e2] at this
  rw [this]
theorem getItem_tuple_cut {t sl : Addr} {items : Array Value} {vl vu : Value} {lo hi : Option Int} {Q : Value -> Shared -> Prop} (ht : IsTup s.heap t items) (hs : s.heap.IsSliceOf sl vl vu .none) (pl : IsPart vl lo) (pu : IsPart vu hi)
    (hw : ¬ (sIx items.size 0 lo = 0 /\ sIx items.size items.size hi = items.size))
    (h : Q (.ref s.heap.objs.size) { s with heap:=s.heap.push { cls:=.type "tuple",data:=.seq ((items.toList.drop (sIx items.size 0 lo)).take (sIx items.size items.size hi - sIx items.size 0 lo)).toArray } })
    (hsz : items.size <= sizeLine) : wpAny (model prog w) A (getItem (.ref t) (.ref sl)) Q E s:=by
  have htake : sizeOk (.seq ((items.toList.drop (sIx items.size 0 lo)).take (sIx items.size items.size hi - sIx items.size 0 lo)).toArray):=by
    show ((items.toList.drop (sIx items.size 0 lo)).take (sIx items.size items.size hi - sIx items.size 0 lo)).toArray.size <= sizeLine
    rw [List.size_toArray,List.length_take,List.length_drop,Array.length_toList]
    omega
  have hj : sIx items.size items.size hi <= items.size:=sIx_le _ _ (Nat.le_refl _) hi
  obtain ⟨os,hos,hcs,hds⟩:=id hs
  have hTs : s.TypeIs (.ref sl) "slice" := ⟨os,hos,hcs⟩
  unfold getItem
  try with_reducible refine wpAny_holding ?_
  first | refine wpAny_bind (wpAny_pure ?_) | skip
  refine wpAny_bind (wpAny_sequenceKey ht.typeIs (by decide) ?_)
  refine wpAny_bind (wpAny_callSpecial?_slot (name:=Str.ofString "__getitem__") ht.typeIs PyProof.Rows.slot_tuple_getitem
    (wpAny_call_entry PyProof.Rows.slot_tuple_getitem ht.typeIs entry_tuple_getitem ?_ (args_tuple_getitem _ _)))
  show wpAny _ _ (Builtin.Tuple.tupleItemsOf (.ref t) >>= _) _ _ s
  refine wpAny_bind (tupleItemsOf_ ht ?_)
  refine wpAny_bind (wpAny_typeOf hTs ?_)
  rw [if_pos (by decide)]
  refine wpAny_bind (sliceApplied_gen hs pl pu ?_)
  have hno : ¬ ((((sIx items.size 0 lo : Nat) : Int) == 0 && (1 : Int) == 1 && (sIx items.size items.size hi - sIx items.size 0 lo) == items.size) = true):=by
    intro q
    rw [Bool.and_eq_true,Bool.and_eq_true] at q
    have q1 : ((sIx items.size 0 lo : Nat) : Int) = 0:=eq_of_beq q.1.1
    have q2 : sIx items.size items.size hi - sIx items.size 0 lo = items.size:=eq_of_beq q.2
    exact hw ⟨by omega,by omega⟩
  show wpAny _ _ (if (((sIx items.size 0 lo : Nat) : Int) == 0 && (1 : Int) == 1 && (sIx items.size items.size hi - sIx items.size 0 lo) == items.size) = true then _ else _) _ _ s
  rw [if_neg hno,pick_gen]
  first
    | exact wpAny_bind (m:=Builtin.Tuple.tupleExact _) (wpAny_newObj_type (wpAny_pure ⟨_,rfl,wpAny_pure h⟩) htake)
    | exact wpAny_bind (m:=Builtin.Tuple.tupleExact _) (wpAny_newObj_type (wpAny_bind (wpAny_pure (wpAny_pure ⟨_,rfl,wpAny_pure h⟩))) htake)
    | exact wpAny_bind (wpAny_bind (m:=Builtin.Tuple.tupleExact _) (wpAny_newObj_type (wpAny_pure (wpAny_pure ⟨_,rfl,wpAny_pure h⟩)) htake))
    | exact wpAny_bind (wpAny_bind (m:=Builtin.Tuple.tupleExact _) (wpAny_newObj_type (wpAny_pure ⟨_,rfl,wpAny_pure h⟩) htake))
end
end HT
namespace L2
open PySem PySem.Spec PyProof.Rows
abbrev TO:=St -> Hp -> (Option Int -> Hp -> Prop) -> Prop
def PO (X : Cx) (e : Option Expr) (t : TO) : Prop:=
  ∀ (pins : List (Addr × Obj)) (s : Shared) (σ : St) (H : Hp) (Q : Option Int -> Hp -> Prop),Inv X pins σ H s -> t σ H Q ->
    wpAny (model X.prog X.w) X.A (evalPart e X.env) (fun u s'=>∃ o H',Inv X pins σ H' s' /\ IsPart u o /\ Q o H') X.xe s
def tNoPart : TO:=fun _ H Q=>Q none H
def tPart (t : TE) : TO:=fun σ H Q=>t σ H fun x H1=>∃ i,x = .int i /\ Q (some i) H1
theorem intsAre_of {ns : List Int} : ∀ {us : List Value},Vals (ns.map V.int) us -> IntsAre us ns:=by
  induction ns with
  | nil=>intro us r; rw [List.map_nil] at r; cases r; exact .nil
  | cons n ns ih=>
    intro us r
    rw [List.map_cons] at r
    cases r with
    | cons r1 r2=>
      obtain ⟨t,e⟩:=r1
      subst e
      exact .cons n t (ih r2)
section
variable {X : Cx} {e : Expr} {te : TE} {lo hi : Option Expr} {tl th : TO} {pos p2 : Pos}
theorem po_none : PO X none tNoPart:=by
  intro pins s σ H Q I h
  rw [evalPart_none]
  exact wpAny_pure ⟨none,H,I,.none,h⟩
theorem po_some (h : PE X e te) : PO X (some e) (tPart te):=by
  intro pins s σ H Q I hw
  rw [evalPart_some]
  refine thn (h pins s σ H _ I hw) fun u s1 ⟨x,H1,I1,r1,q1⟩=>?_
  obtain ⟨i,rfl,q⟩:=q1
  obtain ⟨t,rfl⟩:=r1
  exact ⟨some i,H1,I1,.int i t,q⟩
def SlR (X : Cx) (r : V -> Option Int -> Option Int -> Hp -> VK -> Prop) : Prop:=
  ∀ (pins : List (Addr × Obj)) (s : Shared) (σ : St) (H : Hp) (x : V) (v vl vu : Value) (lo hi : Option Int) (sl : Addr) (Q : VK),Inv X pins σ H s -> RelV x v -> s.heap.IsSliceOf sl vl vu .none -> IsPart vl lo -> IsPart vu hi -> r x lo hi H Q ->
    ∃ T id,typeLookup (.type T) "__getitem__" = pure (some (.builtin id)) /\ s.TypeIs v T /\ wpAny (model X.prog X.w) X.A (getItem v (.ref sl)) (EP X pins σ Q) X.xe s
theorem SlR.or {r r' : V -> Option Int -> Option Int -> Hp -> VK -> Prop} (h : SlR X r) (h' : SlR X r') : SlR X (fun x lo hi H Q=>r x lo hi H Q \/ r' x lo hi H Q):=by
  intro pins s σ H x v vl vu lo hi sl Q I rx hs pl pu q
  rcases q with q | q
  · exact h pins s σ H x v vl vu lo hi sl Q I rx hs pl pu q
  · exact h' pins s σ H x v vl vu lo hi sl Q I rx hs pl pu q
def tSl (r : V -> Option Int -> Option Int -> Hp -> VK -> Prop) (te : TE) (tl th : TO) : TE:=fun σ H Q=>te σ H fun x H1=>tl σ H1 fun l H2=>th σ H2 fun u H3=>r x l u H3 Q
theorem pe_slice {r : V -> Option Int -> Option Int -> Hp -> VK -> Prop} (hr : SlR X r) (he : PE X e te) (hl : PO X lo tl) (hu : PO X hi th) : PE X (.Subscript e (.Slice lo hi none p2) pos) (tSl r te tl th):=by
  intro pins s σ H Q I h
  refine Subscript_ (thn (he pins s σ H _ I h) fun v s1 ⟨x,H1,I1,r1,q1⟩=>?_)
  refine wpAny_Slice (thn (hl pins s1 σ H1 _ I1 q1) fun vl s2 ⟨l,H2,I2,pl,q2⟩=>thn (hu pins s2 σ H2 _ I2 q2) fun vu s3 ⟨u,H3,I3,pu,q3⟩=>?_)
  rw [evalPart_none]
  refine wpAny_pure ?_
  have I4 : Inv X pins σ H3 { s3 with heap:=s3.heap.push { cls:=.type "slice",data:=.fields #[vl,vu,.none] } }:=I3.kept (t':=s3.toks) fun b ob q=>Heap.get?_push_of_some _ q
  obtain ⟨T,id,hT,ht,hg⟩:=hr pins { s3 with heap:=s3.heap.push { cls:=.type "slice",data:=.fields #[vl,vu,.none] } } σ H3 x v vl vu l u s3.heap.objs.size Q I4 r1 (Heap.IsSliceOf.new ..) pl pu q3
  show wpAny (model X.prog X.w) X.A (subscriptTail e (.Slice lo hi none p2) v (.ref s3.heap.objs.size)) (EP X pins σ Q) X.xe { s3 with heap:=s3.heap.push { cls:=.type "slice",data:=.fields #[vl,vu,.none] } }
  exact tail_any (ops:=[.ref s3.heap.objs.size,v]) ht hT hg (by with_unfolding_all rfl)
def cutV (xs : List V) (lo hi : Option Int) : List V:=(xs.drop (HT.sIx xs.length 0 lo)).take (HT.sIx xs.length xs.length hi - HT.sIx xs.length 0 lo)
theorem cutV_length (xs : List V) (lo hi : Option Int) : (cutV xs lo hi).length <= xs.length:=by
  unfold cutV
  rw [List.length_take,List.length_drop]
  omega
def rSlT (K : PySem.W.Frag) : V -> Option Int -> Option Int -> Hp -> VK -> Prop:=fun x lo hi H Q=>∃ a xs,x = .ref a /\ SqT K H a xs /\
  ¬ (HT.sIx xs.length 0 lo = 0 /\ HT.sIx xs.length xs.length hi = xs.length) /\ ∀ p,H p = none -> Q (.ref p) (upd H p (.tup (cutV xs lo hi)))
theorem sl_tup : SlR X (rSlT X.K):=by
  intro pins s σ H x v vl vu lo hi sl Q I rx hs pl pu h
  obtain ⟨a,xs,rfl,hx,hw,q⟩:=h
  cases rx
  obtain ⟨its,r,ht,hz⟩:=I.tuple hx
  have hlen : its.toArray.size = xs.length:=by rw [List.size_toArray]; exact r.length.symm
  refine ⟨"tuple",_,PyProof.Rows.slot_tuple_getitem.lookup,ht.typeIs,?_⟩
  refine HT.getItem_tuple_cut ht hs pl pu (by rw [hlen]; exact hw) ?_ (by rw [hlen]; exact hz)
  rw [hlen]
  refine ⟨.ref s.heap.objs.size,_,I.laid (t':=s.toks) (o:=.tup (cutV xs lo hi)) (fun b ob q=>Heap.get?_push_of_some _ q) (Nat.le_refl _) ?_,rfl,q _ (I.hok.fresh (Nat.le_refl _))⟩
  exact ⟨Nat.le_trans (cutV_length xs lo hi) hz,_,(r.drop (HT.sIx xs.length 0 lo)).take (HT.sIx xs.length xs.length hi - HT.sIx xs.length 0 lo),IsTup.new _ _⟩
def rLtT (K : PySem.W.Frag) : R2:=fun x y H Q=>∃ a b ns ms,x = .ref a /\ y = .ref b /\ SqT K H a (ns.map V.int) /\ SqT K H b (ms.map V.int) /\ Q (.bl (HT.lexLt ns ms)) H
theorem op_ltT (hu : X.A.units < cLine) : OpR X (compareOp .Lt) (rLtT X.K):=by
  intro pins s σ H x y v u Q I rx ry h
  obtain ⟨a,b,ns,ms,rfl,rfl,ha,hb,q⟩:=h
  cases rx
  cases ry
  obtain ⟨its,r1,p1,_⟩:=I.tuple ha
  obtain ⟨its2,r2,p2,_⟩:=I.tuple hb
  have i1 : IntsAre its.toArray.toList ns:=intsAre_of r1
  have i2 : IntsAre its2.toArray.toList ms:=intsAre_of r2
  exact HT.lt_tupInts p1 p2 i1 i2 hu ⟨.bl (HT.lexLt ns ms),H,I,rfl,q⟩
def rCatT (K : PySem.W.Frag) : R2:=fun x y H Q=>∃ a b xs ys,x = .ref a /\ y = .ref b /\ SqT K H a xs /\ SqT K H b ys /\ xs ≠ [] /\ xs.length + ys.length <= sizeLine /\
  (ys = [] -> Q (.ref a) H) /\ (ys ≠ [] -> ∀ p,H p = none -> Q (.ref p) (upd H p (.tup (xs ++ ys))))
theorem Vals.nil_iff {xs : List V} {us : List Value} (r : Vals xs us) : us = [] <-> xs = []:=by
  cases r with
  | nil=>simp
  | cons _ _=>simp
theorem op_catT : OpR X (binaryOp .Add) (rCatT X.K):=by
  intro pins s σ H x y v u Q I rx ry h
  obtain ⟨a,b,xs,ys,rfl,rfl,ha,hb,hx,hz,q1,q2⟩:=h
  cases rx
  cases ry
  obtain ⟨its,r1,p1,_⟩:=I.tuple ha
  obtain ⟨its2,r2,p2,_⟩:=I.tuple hb
  refine HT.cat_tup p1 p2 (fun z=>hx (r1.nil_iff.mp z)) (fun z=>⟨.ref a,H,I,rfl,q1 (r2.nil_iff.mp z)⟩) (fun z=>?_) (by rw [<- r1.length,<- r2.length]; exact hz)
  refine ⟨.ref s.heap.objs.size,_,I.laid (t':=s.toks) (o:=.tup (xs ++ ys)) (fun b ob q=>Heap.get?_push_of_some _ q) (Nat.le_refl _) ?_,rfl,q2 (fun w=>z (r2.nil_iff.mpr w)) _ (I.hok.fresh (Nat.le_refl _))⟩
  exact ⟨by rw [List.length_append]; exact hz,_,r1.append r2,IsTup.new _ _⟩
end
end L2
namespace L2
open PySem PySem.Spec PyProof.Rows
def ixN (n : Nat) (i : Int) : Option Nat:=if 0 <= i then (if i < n then some i.toNat else none) else if -(n : Int) <= i then some (i + n).toNat else none
def atI {α : Type} (xs : List α) (i : Int) : Option α:=(ixN xs.length i).bind fun j=>xs[j]?
theorem ixN_seq {n : Nat} {i : Int} {j : Nat} (h : ixN n i = some j) : seqIndex? i n = some j /\ j < n /\ -(n : Int) <= i /\ i < n:=by
  unfold ixN at h
  by_cases h0 : 0 <= i
  · rw [if_pos h0] at h
    by_cases h1 : i < n
    · rw [if_pos h1] at h
      have e : i.toNat = j:=Option.some.inj h
      exact ⟨by rw [seqIndex_of h0 h1,e],by omega,by omega,h1⟩
    · rw [if_neg h1] at h; cases h
  · rw [if_neg h0] at h
    by_cases h1 : -(n : Int) <= i
    · rw [if_pos h1] at h
      have e : (i + n).toNat = j:=Option.some.inj h
      exact ⟨by rw [seqIndex_neg (by omega) h1,e],by omega,h1,by omega⟩
    · rw [if_neg h1] at h; cases h
theorem atI_get {α : Type} {xs : List α} {i : Int} {v : α} (h : atI xs i = some v) : ∃ j,seqIndex? i xs.length = some j /\ xs[j]? = some v /\ j < xs.length /\ -(xs.length : Int) <= i /\ i < xs.length:=by
  unfold atI at h
  cases e : ixN xs.length i with
  | none=>rw [e] at h; cases h
  | some j=>
    rw [e] at h
    obtain ⟨h1,h2,h3,h4⟩:=ixN_seq e
    exact ⟨j,h1,h,h2,h3,h4⟩
def PlainIx (b : Expr) : Prop:=∀ o i,subscripted b false o i = operate [o,i] (getItem o i)
def IxR (X : Cx) (r : R2) : Prop:=
  ∀ (value slice : Expr) (pins : List (Addr × Obj)) (s : Shared) (σ : St) (H : Hp) (x y : V) (v u : Value) (Q : VK),Inv X pins σ H s -> RelV x v -> RelV y u -> r x y H Q ->
    subscripted slice false v u = operate [v,u] (getItem v u) -> wpAny (model X.prog X.w) X.A (subscriptTail value slice v u) (EP X pins σ Q) X.xe s
def MtR (X : Cx) (id : String) (r : V -> List V -> Hp -> VK -> Prop) : Prop:=
  ∀ (pins : List (Addr × Obj)) (s : Shared) (σ : St) (H : Hp) (x : V) (xs : List V) (v : Value) (us : List Value) (Q : VK),Inv X pins σ H s -> RelV x v -> Vals xs us -> r x xs H Q ->
    wpAny (model X.prog X.w) X.A (call (.builtin id) (v :: us)) (EP X pins σ Q) X.xe s
section
variable {X : Cx} {a b : Expr} {ta tb : TE} {pos : Pos}
theorem IxR.or {r r' : R2} (h : IxR X r) (h' : IxR X r') : IxR X (fun x y H Q=>r x y H Q \/ r' x y H Q):=by
  intro value slice pins s σ H x y v u Q I rx ry q hs
  rcases q with q | q
  · exact h value slice pins s σ H x y v u Q I rx ry q hs
  · exact h' value slice pins s σ H x y v u Q I rx ry q hs
theorem pe_ix {r : R2} (hr : IxR X r) (ha : PE X a ta) (hb : PE X b tb) (hs : PlainIx b) : PE X (.Subscript a b pos) (tOp r ta tb):=by
  intro pins s σ H Q I h
  exact Subscript_ (binT ha hb I h fun v u s2 x y H2 I2 rx ry q=>hr a b pins s2 σ H2 x y v u Q I2 rx ry q (hs _ _))
def rIxL (K : PySem.W.Frag) : R2:=fun x y H Q=>∃ p xs i v,x = .ref p /\ y = .int i /\ SqL K H p xs /\ atI xs i = some v /\ Q v H
def rIxT (K : PySem.W.Frag) : R2:=fun x y H Q=>∃ p xs i v,x = .ref p /\ y = .int i /\ SqT K H p xs /\ atI xs i = some v /\ Q v H
def rIxS : R2:=fun x y H Q=>∃ z i c,x = .str z /\ y = .int i /\ z.length <= sizeLine /\ atI z.cps.toList i = some c /\ Q (.str ⟨#[c]⟩) H
theorem ix_list : IxR X (rIxL X.K):=by
  intro value slice pins s σ H x y v u Q I rx ry h hs
  obtain ⟨p,xs,i,z,rfl,rfl,hq,he,q⟩:=h
  cases rx
  obtain ⟨t,rfl⟩:=ry
  obtain ⟨its,r,pl,hz⟩:=I.list hq
  obtain ⟨j,h1,h2,h3,h4,h5⟩:=atI_get he
  obtain ⟨w,ew,rw'⟩:=r.get h2
  have hl:=r.length
  have hn:=line63
  have fin : EP X pins σ Q w s:=⟨z,H,I,rw',q⟩
  by_cases h0 : 0 <= i
  · have hj : i.toNat = j:=by
      rw [seqIndex_of h0 h5] at h1
      exact Option.some.inj h1
    exact item_listR pl.isList h0 (by omega) (by rw [hj]; simpa using ew) fin hs
  · have hj : (i + (its.toArray.size : Int)).toNat = j:=by
      rw [seqIndex_neg (by omega) h4] at h1
      rw [List.size_toArray,<- hl]
      exact Option.some.inj h1
    exact subscriptTail_builtinR (x:=w) pl.isList.typeIs slot_list_getitem.lookup
      (wpAny_getItem_list_neg (Q:=fun r s'=>r = w /\ EP X pins σ Q r s') pl.isList (by omega) (by rw [List.size_toArray] <;> omega) (by omega) (by rw [hj]; simpa using ew) ⟨rfl,fin⟩) hs
theorem ix_tup : IxR X (rIxT X.K):=by
  intro value slice pins s σ H x y v u Q I rx ry h hs
  obtain ⟨p,xs,i,z,rfl,rfl,hq,he,q⟩:=h
  cases rx
  obtain ⟨t,rfl⟩:=ry
  obtain ⟨its,r,pl,hz⟩:=I.tuple hq
  obtain ⟨j,h1,h2,h3,h4,h5⟩:=atI_get he
  obtain ⟨w,ew,rw'⟩:=r.get h2
  have hl:=r.length
  have hn:=line63
  have fin : EP X pins σ Q w s:=⟨z,H,I,rw',q⟩
  exact subscriptTail_builtinR (x:=w) pl.typeIs slot_tuple_getitem.lookup
    (getItem_tuple (j:=j) (Q:=fun r s'=>r = w /\ EP X pins σ Q r s') pl (by omega) (by omega) (by rw [List.size_toArray,<- hl]; exact h1) (by simpa using ew) ⟨rfl,fin⟩) hs
theorem ix_str : IxR X rIxS:=by
  intro value slice pins s σ H x y v u Q I rx ry h hs
  obtain ⟨z,i,c,rfl,rfl,hz,he,q⟩:=h
  obtain ⟨t,rfl⟩:=rx
  obtain ⟨t',rfl⟩:=ry
  obtain ⟨j,h1,h2,h3,h4,h5⟩:=atI_get he
  have hl : z.cps.toList.length = z.length:=by simp [Str.length]
  rw [hl] at h1 h4 h5
  have hn:=line63
  exact tail_any (typeIs_str s z t) slot_str_getitem.lookup (getItem_str (c:=c) (by
    have e1 : decide (i < -(2 ^ 63 : Int)) = false:=decide_eq_false (by omega)
    have e2 : decide (i >= 2 ^ 63) = false:=decide_eq_false (by omega)
    rw [e1,e2,Bool.or_false]) (by rw [h1]; simpa using h2) ⟨.str ⟨#[c]⟩,H,I.tok _,⟨_,rfl⟩,q⟩) hs
def rIx (K : PySem.W.Frag) : R2:=fun x y H Q=>rIxL K x y H Q \/ rIxT K x y H Q \/ rIxS x y H Q
theorem ix_seq : IxR X (rIx X.K):=ix_list.or (ix_tup.or ix_str)
theorem mapSeq_set (its : List Value) (n j : Nat) (u : Value) : Obj.mapSeq (·.setIfInBounds j u) { cls:=.type "list",data:=.seq its.toArray n } = { cls:=.type "list",data:=.seq (its.set j u).toArray n }:=by
  simp [Obj.mapSeq]
theorem Inv.lst {pins : List (Addr × Obj)} {σ : St} {H : Hp} {s : Shared} {p : Addr} {xs : List V} (I : Inv X pins σ H s) (h : H p = some (.lst xs)) :
    ∃ (its : List Value) (n : Nat),Vals xs its /\ s.heap.get? p = some { cls:=.type "list",data:=.seq its.toArray n } /\ xs.length <= sizeLine:=by
  obtain ⟨z,its,n,r,e⟩:=I.hok p _ h
  exact ⟨its,n,r,e,z⟩
theorem Inv.lstUpd {pins : List (Addr × Obj)} {σ : St} {H : Hp} {s : Shared} {p : Addr} {xs ys : List V} {its its' : List Value} {n n' : Nat} {f : Obj -> Obj} (I : Inv X pins σ H s) (h : H p = some (.lst xs))
    (ho : s.heap.get? p = some { cls:=.type "list",data:=.seq its.toArray n }) (hf : f { cls:=.type "list",data:=.seq its.toArray n } = { cls:=.type "list",data:=.seq its'.toArray n' }) (r : Vals ys its') (hz : ys.length <= sizeLine) (t : Nat) :
    Inv X pins σ (upd H p (.lst ys)) { s with heap:=s.heap.update p f,toks:=t }:=by
  have e : (s.heap.update p f).get? p = some { cls:=.type "list",data:=.seq its'.toArray n' }:=by
    rw [Heap.get?_update_self f ho (by rw [hf] <;> rfl),hf]
  refine I.write (x:=p) (e:=p) (by rw [h]; trivial) (.inl rfl) (fun b u hb q=>(Heap.get?_update_other _ _ (Ne.symm hb)).trans q) ⟨_,e⟩ ?_
  exact ⟨hz,its',n',r,e⟩
def rSetL : V -> V -> V -> Hp -> (Hp -> Prop) -> Prop:=fun o i v H Q=>∃ p xs k j,o = .ref p /\ i = .int k /\ H p = some (.lst xs) /\ ixN xs.length k = some j /\ Q (upd H p (.lst (xs.set j v)))
theorem set_list : PSet X rSetL:=by
  intro pins s σ H o i v ov iv u Q I ro ri rv h
  obtain ⟨p,xs,k,j,rfl,rfl,hp,hj,q⟩:=h
  cases ro
  obtain ⟨t,rfl⟩:=ri
  obtain ⟨its,n,r,ho,hz⟩:=I.lst hp
  obtain ⟨h1,h2,h3,h4⟩:=ixN_seq hj
  have hl:=r.length
  have hn:=line63
  have I' : Inv X pins σ (upd H p (.lst (xs.set j v))) { s with heap:=s.heap.update p (Obj.mapSeq (·.setIfInBounds j u)) }:=
    I.lstUpd hp ho (mapSeq_set its n j u) (r.set rv j) (by rw [List.length_set]; exact hz) s.toks
  by_cases h0 : 0 <= k
  · have hk : k.toNat = j:=by
      rw [seqIndex_of h0 h4] at h1
      exact Option.some.inj h1
    exact PySem.W.ki_setAt ho h0 (by omega) (by rw [List.size_toArray,<- hl]; exact h4) (by rw [hk]; exact ⟨_,I',q⟩)
  · have hk : (k + (its.toArray.size : Int)).toNat = j:=by
      rw [seqIndex_neg (by omega) h3] at h1
      rw [List.size_toArray,<- hl]
      exact Option.some.inj h1
    exact PySem.W.ki_setBack ho (by omega) (by rw [List.size_toArray,<- hl]; exact h3) (by omega) (by rw [hk]; exact ⟨_,I',q⟩)
theorem slice_bounds (lo hi : Option Int) (n : Nat) : (sliceBounds lo hi none n).1 = ((HT.sIx n 0 lo : Nat) : Int) /\ (sliceBounds lo hi none n).2.1 = ((HT.sIx n n hi : Nat) : Int) /\ (sliceBounds lo hi none n).2.2 = 1:=by
  refine ⟨?_,?_,rfl⟩
  · cases lo with
    | none=>simp [sliceBounds,HT.sIx]
    | some i=>
      simp only [sliceBounds,HT.sIx,Option.getD_none,show (1 : Int) > 0 by decide,if_true]
      by_cases h : i < 0
      · simp only [h,if_true] <;> omega
      · simp only [h,if_false] <;> omega
  · cases hi with
    | none=>simp [sliceBounds,HT.sIx]
    | some i=>
      simp only [sliceBounds,HT.sIx,Option.getD_none,show (1 : Int) > 0 by decide,if_true]
      by_cases h : i < 0
      · simp only [h,if_true] <;> omega
      · simp only [h,if_false] <;> omega
theorem slicePick_cut (its : List Value) (lo hi : Option Int) : slicePick its.toArray lo hi none = ((its.drop (HT.sIx its.length 0 lo)).take (HT.sIx its.length its.length hi - HT.sIx its.length 0 lo)).toArray:=by
  obtain ⟨h1,h2,h3⟩:=slice_bounds lo hi its.toArray.size
  unfold slicePick
  rw [h1,h2,h3]
  simp only [sliceRange_one,pick_run,List.size_toArray] <;> rfl
def rSlL (K : PySem.W.Frag) : V -> Option Int -> Option Int -> Hp -> VK -> Prop:=fun x lo hi H Q=>∃ a xs,x = .ref a /\ SqL K H a xs /\ ∀ p,H p = none -> Q (.ref p) (upd H p (.lst (cutV xs lo hi)))
theorem sl_list : SlR X (rSlL X.K):=by
  intro pins s σ H x v vl vu lo hi sl Q I rx hs pl pu h
  obtain ⟨a,xs,rfl,hx,q⟩:=h
  cases rx
  obtain ⟨its,r,ht,hz⟩:=I.list hx
  have hlen:=r.length
  refine ⟨"list",_,slot_list_getitem.lookup,ht.isList.typeIs,?_⟩
  refine wpAny_getItem_list_slice ht.isList hs pl pu .none (by simp) ?_ (by rw [List.size_toArray] <;> omega)
  rw [slicePick_cut,<- hlen]
  refine ⟨.ref s.heap.objs.size,_,I.laid (t':=s.toks) (o:=.lst (cutV xs lo hi)) (fun b ob q=>Heap.get?_push_of_some _ q) (Nat.le_refl _) ?_,rfl,q _ (I.hok.fresh (Nat.le_refl _))⟩
  exact ⟨Nat.le_trans (cutV_length xs lo hi) hz,_,0,(r.drop (HT.sIx xs.length 0 lo)).take (HT.sIx xs.length xs.length hi - HT.sIx xs.length 0 lo),Heap.get?_push_size _ rfl⟩
theorem call_len_seq : CallR X (.builtin "len") (fun xs H Q=>∃ p ys,xs = [.ref p] /\ (SqL X.K H p ys \/ SqT X.K H p ys) /\ Q (.int ys.length) H):=by
  intro pins s σ H xs us Q I r h
  obtain ⟨p,ys,rfl,hq,q⟩:=h
  obtain ⟨u,rfl,rx⟩:=vals1 r
  cases rx
  have hn:=line63
  rcases hq with hq | hq
  · obtain ⟨its,r',pl,hz⟩:=I.list hq
    have hlen:=r'.length
    exact Calls.call_len_list pl.isList (by simp only [List.size_toArray] <;> omega) ⟨.int ys.length,H,I.tok _,⟨s.toks + 1,by rw [List.size_toArray,hlen]⟩,q⟩
  · obtain ⟨its,r',pl,hz⟩:=I.tuple hq
    have hlen:=r'.length
    exact len_tuple pl (by simp only [List.size_toArray] <;> omega) ⟨.int ys.length,H,I.tok _,⟨s.toks + 1,by rw [List.size_toArray,hlen]⟩,q⟩
theorem call_len_str : CallR X (.builtin "len") (fun xs H Q=>∃ z,xs = [.str z] /\ z.length <= sizeLine /\ Q (.int z.length) H):=by
  intro pins s σ H xs us Q I r h
  obtain ⟨z,rfl,hz,q⟩:=h
  obtain ⟨u,rfl,t,rfl⟩:=vals1 r
  have hn:=line63
  exact len_str (by omega) ⟨.int z.length,H,I.tok _,⟨_,rfl⟩,q⟩
theorem call_list_of : CallR X (.type "list") (fun xs H Q=>∃ p ys,xs = [.ref p] /\ (SqL X.K H p ys \/ SqT X.K H p ys) /\ ∀ l,H l = none -> Q (.ref l) (upd H l (.lst ys))):=by
  intro pins s σ H xs us Q I r h
  obtain ⟨p,ys,rfl,hq,q⟩:=h
  obtain ⟨u,rfl,rx⟩:=vals1 r
  cases rx
  have fin : ∀ (its : List Value),Vals ys its -> ys.length <= sizeLine -> ∀ (h' : Heap) (c' : Nat),(∀ b o',s.heap.get? b = some o' -> h'.get? b = some o') ->
      h'.get? s.heap.objs.size = some { cls:=.type "list",dict:=none,data:=.seq its.toArray c',slots:=#[] } -> EP X pins σ Q (.ref s.heap.objs.size) { s with heap:=h' }:=fun its r' hz h' c' kp e=>
    ⟨.ref s.heap.objs.size,_,I.laid (t':=s.toks) kp (Nat.le_refl _) (show ObjOk X.prog X.w _ h' _ (.lst ys) from ⟨hz,its,c',r',e⟩),rfl,q _ (I.hok.fresh (Nat.le_refl _))⟩
  rcases hq with hq | hq
  · obtain ⟨its,r',pl,hz⟩:=I.list hq
    have hlen:=r'.length
    obtain ⟨o,ho,hc,n,hd⟩:=pl.isList
    exact call_list_seq p (.inl rfl) ho hc hd (fun h' c' kp e=>fin its r' hz h' c' kp e) (by simp only [List.size_toArray] <;> omega)
  · obtain ⟨its,r',pl,hz⟩:=I.tuple hq
    have hlen:=r'.length
    obtain ⟨o,ho,hc,n,hd⟩:=pl
    exact call_list_seq p (.inr rfl) ho hc hd (fun h' c' kp e=>fin its r' hz h' c' kp e) (by simp only [List.size_toArray] <;> omega)
theorem call_tuple_of : CallR X (.type "tuple") (fun xs H Q=>∃ p ys,xs = [.ref p] /\ ((SqL X.K H p ys /\ ∀ l,H l = none -> Q (.ref l) (upd H l (.tup ys))) \/ (SqT X.K H p ys /\ Q (.ref p) H))):=by
  intro pins s σ H xs us Q I r h
  obtain ⟨p,ys,rfl,h⟩:=h
  obtain ⟨u,rfl,rx⟩:=vals1 r
  cases rx
  rcases h with ⟨hq,q⟩ | ⟨hq,q⟩
  · obtain ⟨its,r',pl,hz⟩:=I.list hq
    have hlen:=r'.length
    refine call_tuple_list pl.isList (fun h' kp=>?_) (by simp only [List.size_toArray] <;> omega)
    have I1 : Inv X pins σ H { s with heap:=h' }:=I.kept (t':=s.toks) kp
    have I2 : Inv X pins σ (upd H h'.objs.size (.tup ys)) { s with heap:=h'.push { cls:=.type "tuple",data:=.seq its.toArray } }:=
      I1.laid (t':=s.toks) (fun b o e=>Heap.get?_push_of_some _ e) (Nat.le_refl _) (show ObjOk X.prog X.w _ _ _ (.tup ys) from ⟨hz,its,r',IsTup.new _ _⟩)
    exact ⟨.ref h'.objs.size,_,I2,rfl,q _ (I1.hok.fresh (Nat.le_refl _))⟩
  · obtain ⟨its,r',pl,hz⟩:=I.tuple hq
    exact call_tuple_same pl ⟨.ref p,H,I,rfl,q⟩
def tyV (K : PySem.W.Frag) (T : String) (x : V) (H : Hp) : Prop:=match x with
  | .str _=>T = "str"
  | .int _=>T = "int"
  | .ref p=>(T = "list" /\ ∃ xs,SqL K H p xs) \/ (T = "tuple" /\ ∃ o,K.lookup p = some o /\ o.cls = .type "tuple" /\ o.dict = none) \/
      (T = "dict" /\ ((∃ kvs,H p = some (.dK kvs)) \/ ∃ kvs,H p = some (.dT kvs))) \/ (T = "set" /\ ∃ S n,H p = some (.set S n))
  | _=>False
theorem tyV_is {pins : List (Addr × Obj)} {σ : St} {H : Hp} {s : Shared} {T : String} {x : V} {v : Value} (I : Inv X pins σ H s) (r : RelV x v) (ty : tyV X.K T x H) :
    s.TypeIs v T /\ ∀ a,v = .ref a -> ∃ ob,s.heap.get? a = some ob /\ ob.dict = none:=by
  cases x with
  | str z=>
    obtain ⟨t,rfl⟩:=r
    cases (show T = "str" from ty)
    exact ⟨typeIs_str s z t,fun _ e=>nomatch e⟩
  | int i=>
    obtain ⟨t,rfl⟩:=r
    cases (show T = "int" from ty)
    exact ⟨typeIs_int s i t,fun _ e=>nomatch e⟩
  | ref p=>
    cases r
    rcases ty with ⟨rfl,xs,hq⟩ | ⟨rfl,o,hk,hc,hd⟩ | ⟨rfl,hk⟩ | ⟨rfl,S,n,hk⟩
    · obtain ⟨its,_,pl,_⟩:=I.list hq
      refine ⟨pl.isList.typeIs,fun a e=>?_⟩
      cases e
      obtain ⟨o,n,e,c,hd,_⟩:=pl
      exact ⟨o,e,hd⟩
    · refine ⟨⟨o,I.kIn p o hk,hc⟩,fun a e=>?_⟩
      cases e
      exact ⟨o,I.kIn _ o hk,hd⟩
    · have z : ∃ o,s.heap.get? p = some o /\ o.ExactDict:=by
        rcases hk with ⟨kvs,hk⟩ | ⟨kvs,hk⟩
        · obtain ⟨_,_,_,_,o,_,_,e,ex,_⟩:=I.hok p _ hk
          exact ⟨o,e,ex⟩
        · obtain ⟨_,_,_,_,o,_,_,e,ex,_⟩:=I.hok p _ hk
          exact ⟨o,e,ex⟩
      obtain ⟨o,e,ex⟩:=z
      refine ⟨⟨o,e,ex.1⟩,fun a e2=>?_⟩
      cases e2
      exact ⟨o,e,ex.2.1⟩
    · obtain ⟨o,_,_,_,e,ex,_⟩:=I.hok p _ hk
      refine ⟨⟨o,e,ex.1⟩,fun a e2=>?_⟩
      cases e2
      exact ⟨o,e,ex.2.1⟩
  | _=>exact False.elim ty
def tBM0 (K : PySem.W.Frag) (T : String) (r : V -> List V -> Hp -> VK -> Prop) (to : TE) : TE:=fun σ H Q=>to σ H fun x H1=>tyV K T x H1 /\ r x [] H1 Q
def tBM (K : PySem.W.Frag) (T : String) (r : V -> List V -> Hp -> VK -> Prop) (to : TE) (t : TA) : TE:=fun σ H Q=>to σ H fun x H1=>tyV K T x H1 /\ t σ H1 fun xs H2=>r x xs H2 Q
variable {o e : Expr} {es : List Expr} {to : TE} {t : TA} {name : Str} {apos cpos : Pos} {T id : String} {r : V -> List V -> Hp -> VK -> Prop}
theorem pe_bm0 (pa : PlainAttrs T) (slot : Slot T name id) (hty : typeOf (.builtin id) = pure (.type "method_descriptor")) (hm : MtR X id r) (ho : PE X o to)
    (hbase : attributeBase o name X.env (eval o X.env) = eval o X.env:=by rfl) (hline : (apos.endLine == cpos.line) = true:=by rfl) : PE X (.Call (.Attribute o name apos) [] [] cpos) (tBM0 X.K T r to):=by
  intro pins s σ H Q I h
  refine wpAny_Call_method0_late hbase hline (thn (ho pins s σ H _ I h) fun v s1 ⟨x,H1,I1,r1,ty,q1⟩=>?_)
  obtain ⟨h1,h2⟩:=tyV_is I1 r1 ty
  exact ⟨T,id,pa,slot,hty,h1,h2,Calls.callWith_builtin rfl (PySem.evalArgs_none (hm pins s1 σ H1 x [] v [] Q I1 r1 .nil q1))⟩
theorem pe_bm (pa : PlainAttrs T) (slot : Slot T name id) (hty : typeOf (.builtin id) = pure (.type "method_descriptor")) (hm : MtR X id r) (ho : PE X o to) (ha : PA X (e :: es) t)
    (hbase : attributeBase o name X.env (eval o X.env) = eval o X.env:=by rfl)
    (hfew : ((backTo cpos (starEach (e :: es) X.env)).all (fun x=>!x.1) && (backToKw cpos (keywordEach [] X.env)).all (fun x=>x.1.isSome)
      && decide ((e :: es).length + ([] : List Keyword).length + (if ([] : List Keyword).isEmpty then 0 else 1) < 30)) = true:=by rfl)
    (hline : (apos.endLine == cpos.line) = true:=by rfl) (hs : starEach (e :: es) X.env = (false,eval e X.env) :: starEach es X.env:=by rfl) (hplain : (backTo cpos (starEach es X.env)).any (·.1) = false:=by rfl) :
    PE X (.Call (.Attribute o name apos) (e :: es) [] cpos) (tBM X.K T r to t):=by
  intro pins s σ H Q I h
  refine wpAny_Call_method_late hbase hfew hline rfl (thn (ho pins s σ H _ I h) fun v s1 ⟨x,H1,I1,r1,ty,q1⟩=>?_)
  obtain ⟨h1,h2⟩:=tyV_is I1 r1 ty
  refine ⟨T,id,pa,slot,hty,h1,h2,?_⟩
  have hA:=ha cpos pins s1 σ H1 _ I1 q1
  rw [hs] at hA ⊢
  refine Calls.callWith_builtin (by show (false || (backTo cpos (starEach es X.env)).any (·.1)) = false; rw [hplain] <;> rfl) (Calls.evalArgs_plain ?_)
  exact thn hA fun us s2 ⟨vs,H2,I2,r2,q2⟩=>hm pins s2 σ H2 x vs v us Q I2 r1 r2 q2
end
end L2
namespace L2
open PySem PySem.Spec PyProof.Rows
def MtM (X : Cx) (id : String) (r : V -> List V -> Hp -> VK -> Prop) : Prop:=
  ∀ (pins : List (Addr × Obj)) (s : Shared) (σ : St) (H : Hp) (x : V) (xs : List V) (v : Value) (us : List Value) (Q : VK),Inv X pins σ H s -> RelV x v -> Vals xs us -> r x xs H Q ->
    wpAny (model X.prog X.w) X.A (call (.builtin id) (v :: us)) (EP X pins σ Q) X.xe s
theorem Vals.one : ∀ {x : V} {us : List Value},Vals [x] us -> ∃ u,us = [u] /\ RelV x u
  | _,_,.cons r .nil=>⟨_,rfl,r⟩
theorem Vals.zero : ∀ {us : List Value},Vals [] us -> us = []
  | _,.nil=>rfl
theorem Vals.rep {xs : List V} {us : List Value} (h : Vals xs us) : ∀ k : Nat,Vals (List.replicate k xs).flatten (List.replicate k us).flatten
  | 0=>.nil
  | k + 1=>by
    rw [List.replicate_succ,List.replicate_succ,List.flatten_cons,List.flatten_cons]
    exact Vals.append h (Vals.rep h k)
theorem foldl_rep (its : List Value) : ∀ (k : Nat) (acc : List Value),
    List.foldl (fun x1 x2=>x1 ++ x2) acc.toArray (List.replicate k its.toArray) = (acc ++ (List.replicate k its).flatten).toArray
  | 0,acc=>by simp
  | k + 1,acc=>by
    have e : acc.toArray ++ its.toArray = (acc ++ its).toArray:=by simp
    have e2 : (acc ++ its) ++ (List.replicate k its).flatten = acc ++ (List.replicate (k + 1) its).flatten:=by
      rw [List.replicate_succ,List.flatten_cons,List.append_assoc]
    rw [<- e2,<- foldl_rep its k (acc ++ its),<- e,List.replicate_succ,List.foldl_cons]
section
variable {X : Cx} {pins : List (Addr × Obj)} {σ : St} {H : Hp} {s : Shared} {l b : Addr} {xs ys zs : List V}
theorem Inv.lset {its its' : List Value} {n : Nat} {f : Array Value -> Array Value} {t' : Nat} (I : Inv X pins σ H s) (hH : H l = some (.lst xs))
    (e : s.heap.get? l = some { cls:=.type "list",data:=.seq its.toArray n }) (hf : f its.toArray = its'.toArray) (hv : Vals ys its') (hz : ys.length <= sizeLine) :
    Inv X pins σ (upd H l (.lst ys)) { s with heap:=s.heap.update l (Obj.mapSeq f),toks:=t' }:=by
  have q:=PySem.IsL.update e f
  rw [hf] at q
  refine I.write (x:=l) (e:=l) (by rw [hH]; exact trivial) (.inl rfl) (fun b' u hb hu=>(Heap.get?_update_other s.heap (Obj.mapSeq f) (Ne.symm hb)).trans hu) ⟨_,q⟩ ?_
  exact ⟨hz,its',_,hv,q⟩
theorem Inv.lnew {its : List Value} {t' : Nat} (I : Inv X pins σ H s) (hv : Vals ys its) (hz : ys.length <= sizeLine) :
    Inv X pins σ (upd H s.heap.objs.size (.lst ys)) { s with heap:=s.heap.push { cls:=.type "list",data:=.seq its.toArray },toks:=t' }:=
  I.laid (fun _ _ q=>Heap.get?_push_of_some _ q) (Nat.le_refl _) ⟨hz,its,0,hv,Heap.get?_push_size _ rfl⟩
theorem Inv.fresh (I : Inv X pins σ H s) : H s.heap.objs.size = none:=I.hok.fresh (Nat.le_refl _)
theorem Inv.lstM (I : Inv X pins σ H s) (hH : H l = some (.lst xs)) : xs.length <= sizeLine /\ ∃ (its : List Value) (n : Nat),Vals xs its /\ xs.length = its.length /\ s.heap.get? l = some { cls:=.type "list",data:=.seq its.toArray n }:=by
  obtain ⟨z,its,n,r,e⟩:=I.hok l _ hH
  exact ⟨z,its,n,r,r.length,e⟩
theorem notLongL {n : Nat} (h : n <= sizeLine) : Builtin.List.listTooLong n = false:=by
  unfold Builtin.List.listTooLong
  exact decide_eq_false (by omega)
end
section
variable {X : Cx}
def rAppend : V -> List V -> Hp -> VK -> Prop:=fun x vs H Q=>∃ l xs y,x = .ref l /\ vs = [y] /\ H l = some (.lst xs) /\ xs.length < sizeLine /\ Q .non (upd H l (.lst (xs ++ [y])))
theorem mt_append : MtM X "list.append" rAppend:=by
  intro pins s σ H x vs v us Q I rx rv h
  obtain ⟨l,xs,y,rfl,rfl,hH,hz,q⟩:=h
  cases rx
  obtain ⟨u,rfl,ru⟩:=rv.one
  obtain ⟨z,its,n,r,hl,e⟩:=I.lstM hH
  refine call_meets F.slot_list_append ⟨_,e,rfl⟩ F.entry_list_append (F.args_list_append_2 _ _) (PySem.list_append l its.toArray n u (by rw [List.size_toArray]; omega)) ⟨e,?_⟩
  refine ⟨.non,_,I.lset (its':=its ++ [u]) hH e (by simp) (r.append (.cons ru .nil)) ?_,rfl,q⟩
  rw [List.length_append,List.length_singleton]
  omega
def rExtend : V -> List V -> Hp -> VK -> Prop:=fun x vs H Q=>∃ l b xs zs,x = .ref l /\ vs = [.ref b] /\ H l = some (.lst xs) /\ H b = some (.lst zs) /\ xs.length + zs.length <= sizeLine /\ Q .non (upd H l (.lst (xs ++ zs)))
theorem mt_extend : MtM X "list.extend" rExtend:=by
  intro pins s σ H x vs v us Q I rx rv h
  obtain ⟨l,b,xs,zs,rfl,rfl,hH,hB,hz,q⟩:=h
  cases rx
  obtain ⟨u,rfl,ru⟩:=rv.one
  cases ru
  obtain ⟨z,its,n,r,hl,e⟩:=I.lstM hH
  obtain ⟨z2,its2,n2,r2,hl2,e2⟩:=I.lstM hB
  have hsz : its.toArray.size + its2.toArray.size <= sizeLine:=by rw [List.size_toArray,List.size_toArray]; omega
  have hlong : ¬ (!its.toArray.isEmpty && Builtin.List.listTooLong (its.toArray.size + its2.toArray.size)) = true:=by
    rw [notLongL hsz,Bool.and_false]
    exact Bool.false_ne_true
  refine call_meets F.slot_list_extend ⟨_,e,rfl⟩ F.entry_list_extend (F.args_list_extend_2 _ _)
    (AutoSeq1.list_extend_list_list_0 l its.toArray n b its2.toArray n2 hlong (by rw [List.size_toArray]; omega) (by omega)) ⟨e,e2,?_⟩
  refine ⟨.non,_,I.lset (its':=its ++ its2) hH e (by simp) (r.append r2) ?_,rfl,q⟩
  rw [List.length_append]
  omega
def rClear : V -> List V -> Hp -> VK -> Prop:=fun x vs H Q=>∃ l xs,x = .ref l /\ vs = [] /\ H l = some (.lst xs) /\ Q .non (upd H l (.lst []))
theorem mt_clear : MtM X "list.clear" rClear:=by
  intro pins s σ H x vs v us Q I rx rv h
  obtain ⟨l,xs,rfl,rfl,hH,q⟩:=h
  cases rx
  have hus:=rv.zero
  subst hus
  obtain ⟨z,its,n,r,hl,e⟩:=I.lstM hH
  refine call_meets F.slot_list_clear ⟨_,e,rfl⟩ F.entry_list_clear (F.args_list_clear_1 _) (AutoSeq1.list_clear_list_0 l its.toArray n (by rw [List.size_toArray]; omega)) ⟨e,?_⟩
  exact ⟨.non,_,I.lset (its':=[]) (ys:=[]) hH e rfl .nil (Nat.zero_le _),rfl,q⟩
def rCat : R2:=fun x y H Q=>∃ l b xs zs,x = .ref l /\ y = .ref b /\ H l = some (.lst xs) /\ H b = some (.lst zs) /\ xs.length + zs.length <= sizeLine /\ ∀ p,H p = none -> Q (.ref p) (upd H p (.lst (xs ++ zs)))
theorem op_cat : OpR X (binaryOp .Add) rCat:=by
  intro pins s σ H x y v u Q I rx ry h
  obtain ⟨l,b,xs,zs,rfl,rfl,hH,hB,hz,q⟩:=h
  cases rx
  cases ry
  obtain ⟨z,its,n,r,hl,e⟩:=I.lstM hH
  obtain ⟨z2,its2,n2,r2,hl2,e2⟩:=I.lstM hB
  refine PySem.P.add_list e e2 ?_ (by rw [List.size_toArray,List.size_toArray]; omega)
  have ea : its.toArray ++ its2.toArray = (its ++ its2).toArray:=by simp
  rw [ea]
  exact ⟨.ref _,_,I.lnew (t':=s.toks) (r.append r2) (by rw [List.length_append]; omega),rfl,q _ I.fresh⟩
def rRep : R2:=fun x y H Q=>∃ l k xs,x = .ref l /\ y = .int k /\ H l = some (.lst xs) /\ -(2 ^ 63) <= k /\ k < 2 ^ 63 /\ xs.length * k.toNat <= sizeLine /\
  ∀ p,H p = none -> Q (.ref p) (upd H p (.lst (List.replicate k.toNat xs).flatten))
theorem len_rep {α : Type} (xs : List α) (k : Nat) : (List.replicate k xs).flatten.length = k * xs.length:=by
  induction k with
  | zero=>simp
  | succ k ih=>rw [List.replicate_succ,List.flatten_cons,List.length_append,ih,Nat.succ_mul,Nat.add_comm]
theorem op_rep : OpR X (binaryOp .Mult) rRep:=by
  intro pins s σ H x y v u Q I rx ry h
  obtain ⟨l,k,xs,rfl,rfl,hH,h1,h2,hz,q⟩:=h
  cases rx
  obtain ⟨t,rfl⟩:=ry
  obtain ⟨z,its,n,r,hl,e⟩:=I.lstM hH
  have hlen : its.toArray.size * k.toNat <= sizeLine:=by rw [List.size_toArray,<- hl]; exact hz
  have hcap : ¬ its.toArray.size * k.toNat > (2 ^ 63 - 1) / 8:=by
    have : (sizeLine : Nat) <= (2 ^ 63 - 1) / 8:=by decide
    omega
  have hfit : ¬ (!Builtin.List.listFitsIndex k) = true:=by
    rw [fitsIndex_both h1 h2]
    exact Bool.false_ne_true
  have hlong : ¬ Builtin.List.listTooLong (its.toArray.size * k.toNat) = true:=by
    rw [notLongL hlen]
    exact Bool.false_ne_true
  have hnew : List.foldl (fun x1 x2=>x1 ++ x2) #[] (List.replicate (if its.toArray.isEmpty = true then 0 else k.toNat) its.toArray) = (List.replicate k.toNat its).flatten.toArray:=by
    have f0 : ∀ m : Nat,List.foldl (fun x1 x2=>x1 ++ x2) #[] (List.replicate m its.toArray) = (List.replicate m its).flatten.toArray:=fun m=>by
      have:=foldl_rep its m []
      rw [List.nil_append] at this
      exact this
    rw [f0]
    cases its with
    | nil=>simp
    | cons a r'=>rw [if_neg (by simp)]
  refine wpAny_binaryOp_repeat_ref (T := "list") (U := "int") (by decide) ⟨_,e,rfl⟩ (fun s'=>typeIs_int s' k t) noFill_list_mul F.fills_int_mul F.slot_int_rmul repeat_list F.slot_int_index.lookup
    (call_meets F.slot_int_rmul (typeIs_int s k t) F.entry_int_rmul (F.args_int_rmul_2 _ _) (int___rmul___int_list k t l its.toArray n)
      ⟨e,rfl,⟨_,e,rfl⟩,call_meets F.slot_list_mul ⟨_,e,rfl⟩ F.entry_list_mul (F.args_list_mul_2 _ _) (AutoListH.list___mul___list_int_3 l its.toArray n k t hfit hcap hlong) ⟨e,?_⟩⟩)
  rw [hnew]
  exact ⟨.ref _,_,I.lnew (t':=s.toks) (r.rep k.toNat) (by rw [len_rep,Nat.mul_comm]; exact hz),rfl,q _ I.fresh⟩
end
section
variable {prog : Program} {w : World} {A : Around} {E : Value -> Shared -> Prop} {s : Shared}
end
section
variable {X : Cx}
end
end L2
namespace Att
open PySem PySem.W PySem.Calls PyProof.Rows
theorem ints_of_wellAll {P : Params} {h : Heap} : ∀ (ns : List Int) (vs : List Value),WellAll P h vs (ns.map WData.int) -> IntsAre vs ns:=by
  intro ns
  induction ns with
  | nil=>
    intro vs w
    rw [List.map_nil] at w
    cases w
    exact .nil
  | cons n ns ih=>
    intro vs w
    rw [List.map_cons] at w
    cases w with
    | cons a b=>
      cases a
      exact .cons _ _ (ih _ b)
theorem script_of {l : OpenLaw} {n : Nat} (hn : l.most = some n) {P : Params} {h : Heap} {args : List WData} {vals : List Value}
    (hpre : l.row.toRowW.claim.pre args = true) (hwl : WellAll P h vals args) :
    ∃ a vs ns,vals = [Value.ref a] /\ args = [WData.list (ns.map WData.int)] /\ h.get? a = some { cls:=.type "list",data:=.seq vs.toArray } /\ IntsAre vs ns /\ ns.length <= n:=by
  have hsh : WShape.hasAll [] args [.list .int] = true:=(pre_splitW hpre).1
  have hc : l.pre.holds [] { args:=args } = true:=(pre_splitW hpre).2
  obtain ⟨d,r,rfl,h1,h2⟩:=hasAllW_cons hsh
  obtain rfl:=hasAllW_nil h2
  obtain ⟨xs,rfl,h3⟩:=hasW_list h1
  obtain ⟨ns,rfl⟩:=items_int h3
  have hlen : ns.length <= n:=by
    unfold OpenLaw.pre at hc
    have h4 : (WTm.not (.lt (.lit (.int (n : Int))) (.len (.arg 0)))).holds [] { args:=[.list (ns.map .int)] } = true:=by
      have h4:=(holds_andW hc).1
      rw [hn] at h4
      exact h4
    have h5:=condW_of h4 (w_not (w_lt w_lit (w_len_list (w_arg rfl))))
    rw [List.length_map] at h5
    refine Nat.le_of_not_lt fun q=>?_
    have q' : (n : Int) < ((ns.length : Nat) : Int):=by omega
    first
      | (rw [decide_eq_true q'] at h5; exact absurd h5 (by decide))
      | (simp at h5; omega)
  cases hwl with
  | cons w1 w2=>
    cases w2
    cases w1 with
    | list ho hall=>exact ⟨_,_,ns,rfl,rfl,ho,ints_of_wellAll ns _ hall,hlen⟩
theorem post_true (l : OpenLaw) (args : List WData) : l.row.toRowW.claim.post args (.bool true) args = true:=
  postW_of (r:=l.row.toRowW) (X:=(true == true))
    (show WShape.has [] (.bool true) .bool = true by first | rfl | decide | simp [WShape.has,WShape.arms,WShape.armsAll])
    (show (WTm.eq .res (.lit (.bool true))).value [] { args:=args,res:=some (.bool true),after:=args } = some (.bool (true == true)) from w_eq_bool (w_res rfl) w_lit) rfl
theorem attach_call {l : OpenLaw} {n : Nat} {q : Program} {loose : List Str} {XP : (Str -> Option Value) -> Heap -> Prop} {YP : World -> Heap -> Prop} {d : DefRec}
    (hn : l.most = some n) (hdf : d.params.defaults = [])
    (call : ∀ (w : World) (s₀ s₁ : Shared) (mg mb : Str -> Option Value) (fa : Addr) (o : Obj) (pm cd doc : Value) (a : Addr) (vs : List Value) (ns : List Int),
      Ground q loose [] XP w s₀ mg mb s₁.heap -> YP w s₁.heap ->
      s₁.heap.get? fa = some o -> o.data = .func (docDef d.name d.params d.body d.scope pm cd doc) -> s₁.heap.CodeRec cd d.name -> mg d.name = some (.ref fa) ->
      s₁.heap.get? a = some { cls:=.type "list",data:=.seq vs.toArray } -> IntsAre vs ns -> ns.length <= n -> s₁.gens = #[] ->
      codeAny (model l.prog w) callerA (.call (.ref fa) ⟨[.ref a],[]⟩) (fun r s'=>r = .ok (.ret (.bool true)) /\ OldK s₁.heap s'.heap /\ s'.os = s₁.os /\ AllBare s'.gens) s₁) :
    WalkO q loose XP YP l.row.toRowW d [] (fun f vs=>PySem.call f vs):=by
  intro w s₀ s₁ mg mb G Y fa o pm cd doc dV kV ho hd hcd hD hmg hg args vals as hpre hlay hrd hwl hlo
  obtain rfl : dV = .none:=Dflts.none hD hdf
  obtain rfl : kV = .none:=Dflts.noKw hD
  obtain ⟨a,vs,ns,rfl,rfl,hobj,hints,hlen⟩:=script_of hn hpre hwl
  refine enter_call (codeAny_mono (call w s₀ s₁ mg mb fa o pm cd doc a vs ns G Y ho (fd_plain hd) hcd hmg hobj hints hlen hg) fun r s' hq=>?_)
  obtain ⟨rfl,h2,h3,h4⟩:=hq
  exact ⟨.inl ⟨.bool true,.bool true,[],rfl,fun _=>rfl,.bool true,post_true l _,fun _=>⟨List.Pairwise.nil,fun _ hm=>(nomatch hm)⟩⟩,h2,h3,h4⟩
section
variable {prog : Program} {w : World} {A : Around} {E : Value -> Shared -> Prop} {s : Shared} {K : Frag}
end
end Att
namespace L2
open PySem PySem.Spec PyProof.Rows
theorem vals_ints : ∀ {vs : List Value} {ns : List Int},IntsAre vs ns -> Vals (ns.map V.int) vs
  | _,_,.nil=>.nil
  | _,_,.cons n t h=>.cons ⟨t,rfl⟩ (vals_ints h)
def Only (H : Hp) : Prop:=∀ b,H b = none \/ ∃ o xs,H b = some (.frz o (.lst xs))
theorem law_call {P : Program} {w : World} {K : PySem.W.Frag} {mg mb : Str -> Option Value} {CX : CXT} {k : Nat} {fa a : Addr} {fd : FuncData} {x : Str} {sp : Sp} {s₁ : Shared} {vs : List Value} {ns : List Int}
    (KX : K.In s₁.heap) (hns : s₁.heap.Ns mainGlobals mg) (hb : s₁.heap.Ns builtinsNs mb) (hbb : ∀ x : Str,x ≠ "__name__" -> mb x = bootBuiltins x) (hlim : s₁.heap.NoLimit) (hg : s₁.gens = #[])
    (ha : s₁.heap.get? a = some { cls:=.type "list",data:=.seq vs.toArray }) (hi : IntsAre vs ns) (hl : ns.length <= sizeLine) (hr : Room k callerA)
    (F : ∀ base : Heap,K.In base -> base.Ns mainGlobals mg -> FnOk P w K mg base CX k fa fd [x] sp) (hbind : ∀ (s : Shared) (u : Value),BindsTo s fd ⟨[u],[]⟩ [(x,u)])
    (hsp : ∀ H : Hp,Only H -> SqL K H a (ns.map V.int) -> sp [.ref a] H (fun v _=>v = .bl true) fun _ _ _=>False)
    (hCX : ∀ H e s',CX [] H s₁ (fun _ _ _=>False) e s' -> False) :
    codeAny (model P w) callerA (.call (.ref fa) ⟨[.ref a],[]⟩) (fun r s'=>r = .ok (.ret (.bool true)) /\ OldK s₁.heap s'.heap /\ s'.os = s₁.os /\ AllBare s'.gens) s₁:=by
  have rv:=vals_ints hi
  have lenV:=hi.length
  have core : ∀ H : Hp,Only H -> SqL K H a (ns.map V.int) -> HOk P w H s₁.heap -> (∀ b,H b ≠ none -> b = a) -> (H a ≠ none -> K.lookup a = none) ->
      codeAny (model P w) callerA (.call (.ref fa) ⟨[.ref a],[]⟩) (fun r s'=>r = .ok (.ret (.bool true)) /\ OldK s₁.heap s'.heap /\ s'.os = s₁.os /\ AllBare s'.gens) s₁:=by
    intro H hO hS hok hA hK
    have base_of : ∀ {b : Addr} {o : Obj},s₁.heap.get? b = some o -> H b = none -> (hidT s₁.heap H).get? b = some o:=fun e n=>hidT_get e n
    have noA : ∀ {b : Addr} {o : Obj} {es : Array DictEntry} {ep : Nat},s₁.heap.get? b = some o -> o.data = .dict es ep -> H b = none:=fun {b o es ep} e d=>by
      cases q : H b with
      | none=>rfl
      | some u=>
        have e' : b = a:=hA b (by rw [q]; simp)
        subst e'
        rw [ha] at e; cases e
        have d' : Data.seq vs.toArray _ = Data.dict es ep:=d
        cases d'
    have nsK : ∀ {b : Addr} {m : Str -> Option Value},s₁.heap.Ns b m -> (hidT s₁.heap H).Ns b m:=fun {b m} ⟨o,es,ep,e,d,r⟩=>⟨o,es,ep,base_of e (noA e d),d,r⟩
    have hKb : K.In (hidT s₁.heap H):=fun b o e=>base_of (KX b o e) (by
      cases q : H b with
      | none=>rfl
      | some u=>
        have e' : b = a:=hA b (by rw [q]; simp)
        subst e'
        rw [hK (by rw [q]; simp)] at e; cases e)
    have hM : Mod K mg (hidT s₁.heap H):=⟨hKb,nsK hns,⟨mb,nsK hb,hbb⟩,let ⟨mc,h1,h2⟩:=hlim; ⟨mc,nsK h1,h2⟩⟩
    have e0 : Env0 P w K mg (hidT s₁.heap H) callerA [] s₁ H:=⟨rfl,hM,fun b o e=>of_hidT e,Nat.le_of_eq (hidT_size _ _),trivial,fun b hb=>absurd (show b ∈ ([] : List Addr) from hb) (by simp),hok,.of_eq hg⟩
    refine codeAny_mono ((F _ hKb (nsK hns)).run callerA [] s₁ H ⟨[.ref a],[]⟩ [.ref a] [.ref a] _ _ hr e0 (hbind s₁ (.ref a)) (.cons rfl .nil) (hsp H hO hS)) fun r s' h=>?_
    cases r with
    | error e=>exact (hCX H e s' h).elim
    | ok fl=>
      cases fl with
      | next=>exact False.elim h
      | brk=>exact False.elim h
      | cont=>exact False.elim h
      | ret u=>
        obtain ⟨v,H',os,bare,un,hok',r',q⟩:=h
        have q' : v = .bl true:=q
        subst q'
        obtain rfl : u = Value.bool true:=r'
        refine ⟨rfl,OldK.of_keep fun b o e=>?_,os,bare⟩
        cases q : H b with
        | none=>exact un.keep b o e q (by intro z; exact absurd (show b ∈ ([] : List Addr) from z) (by simp)) (by simp)
        | some u=>
          rcases hO b with z | ⟨ob,xs,z⟩
          · rw [q] at z; cases z
          · have z2:=un.frzs b ob _ z
            obtain ⟨e1,_⟩:=hok b _ z
            obtain ⟨e2,_⟩:=hok' b _ z2
            rw [e] at e1; cases e1
            exact e2
  cases hk : K.lookup a with
  | some o=>
    have e:=KX a o hk
    rw [ha] at e
    cases e
    refine core (fun _=>none) (fun _=>.inl rfl) (.inr ⟨_,vs.toArray,_,hk,rfl,rfl,rfl,by rw [List.size_toArray,lenV]; exact hl,by simpa using rv⟩) (fun b u z=>by have z' : (none : Option HO) = some u:=z; cases z') (fun b z=>absurd rfl z) fun z=>absurd rfl z
  | none=>
    refine core (fun b=>if b = a then some (.frz { cls:=.type "list",data:=.seq vs.toArray } (.lst (ns.map V.int))) else none) (fun b=>?_) (.inl (.inr ⟨{ cls:=.type "list",data:=.seq vs.toArray },if_pos rfl⟩)) (fun b u z=>?_) (fun b z=>?_) fun _=>hk
    · by_cases hb : b = a
      · exact .inr ⟨_,_,if_pos hb⟩
      · exact .inl (if_neg hb)
    · by_cases hb : b = a
      · have z':=(if_pos hb).symm.trans z
        cases z'
        subst hb
        exact ⟨ha,by rw [List.length_map]; exact hl,vs,_,rv,ha⟩
      · have z':=(if_neg hb).symm.trans z
        cases z'
    · by_cases hb : b = a
      · exact hb
      · exact absurd (if_neg hb) z
end L2
namespace L2
open PySem PySem.Spec PyProof.Rows
theorem walk_of {l : PySem.W.OpenLaw} {n k : Nat} {q : Program} {loose : List Str} {XP : (Str -> Option Value) -> Heap -> Prop} {YP : World -> Heap -> Prop} {d : DefRec} {K : Params -> PySem.W.Frag} {CX : World -> CXT} {sp : World -> Sp} {x : Str}
    (hn : l.most = some n) (hn2 : n <= sizeLine) (hdf : d.params.defaults = []) (hr : Room k callerA)
    (hY : ∀ (w : World) (h : Heap),YP w h -> (K w.params).In h)
    (F : ∀ (w : World) (mg : Str -> Option Value) (fa : Addr) (h : Heap),(K w.params).In h -> h.Ns mainGlobals mg -> mg d.name = some (.ref fa) ->
      ∃ fd : FuncData,(∀ (s : Shared) (u : Value),BindsTo s fd ⟨[u],[]⟩ [(x,u)]) /\
        ∀ base : Heap,(K w.params).In base -> base.Ns mainGlobals mg -> FnOk l.prog w (K w.params) mg base (CX w) k fa fd [x] (sp w))
    (hsp : ∀ (w : World) (H : Hp) (a : Addr) (ns : List Int),ns.length <= n -> Only H -> SqL (K w.params) H a (ns.map V.int) -> sp w [.ref a] H (fun v _=>v = .bl true) fun _ _ _=>False)
    (hCX : ∀ (w : World) (H : Hp) (s : Shared) (e : Value) (s' : Shared),CX w [] H s (fun _ _ _=>False) e s' -> False) :
    PySem.W.WalkO q loose XP YP l.row.toRowW d [] (fun f vs=>PySem.call f vs):=by
  refine Att.attach_call hn hdf fun w s₀ s₁ mg mb fa o pm cd doc a vs ns G Y ho hd hcd hmg hobj hints hlen hg=>?_
  have KX:=hY w _ Y
  obtain ⟨fd,hb,hF⟩:=F w mg fa _ KX G.T.g hmg
  exact law_call KX G.T.g G.T.b G.T.builtins G.T.nolimit hg hobj hints (Nat.le_trans hlen hn2) hr hF hb (fun H hO hS=>hsp w H a ns hlen hO hS) fun H e s'=>hCX w H s₁ e s'
end L2
namespace L2
open PySem PySem.Spec PyProof.Rows
def defArgs (s : Stmt) : Arguments:=match s with
  | .FunctionDef _ a _ _ _ _ _ _ _ _=>a
  | _=>{ posonlyargs:=[],args:=[],vararg:=none,kwonlyargs:=[],kw_defaults:=[],kwarg:=none,defaults:=[] }
def defBody (s : Stmt) : List Stmt:=match s with
  | .FunctionDef _ _ b _ _ _ _ _ _ _=>b
  | _=>[]
def defScope (s : Stmt) : Scope:=match s with
  | .FunctionDef _ _ _ _ _ _ sc _ _ _=>sc
  | _=>{ kind:=.function,names:=[],isGenerator:=false,isCoroutine:=false }
abbrev CX0 : CXT:=fun _ _ _ _ _ _=>False
abbrev E0 : XK:=fun _ _ _=>False
structure Fun (K : PySem.W.Frag) (x qual : Str) (st : Stmt) (f : Addr) (fd : FuncData) : Prop where
  ex : ∃ (oc : Value) (od : Option Addr) (kV doc pm : Value) (an : Option Addr) (cdv ct : Value) (osl : Array (Option Value)),
    fd = PySem.W.fnOf x qual (defArgs st) (defBody st) (defScope st) .none kV doc pm an cdv ct /\ K.lookup f = some ⟨oc,od,.func fd,osl⟩ /\ PySem.W.codeIn K cdv qual = true
  kp : PySem.W.keepIn K (.ref f) = true
section
variable {P : Program} {w : World} {K : PySem.W.Frag} {mg : Str -> Option Value} {base : Heap}
theorem Fun.binds {x qual : Str} {st : Stmt} {f : Addr} {fd : FuncData} {ps : List Str} (F : Fun K x qual st f fd)
    (h : ∀ (kV doc pm : Value) (an : Option Addr) (cdv ct : Value) (us : List Value),us.length = ps.length -> bindArgs (PySem.W.fnOf x qual (defArgs st) (defBody st) (defScope st) .none kV doc pm an cdv ct) ⟨us,[]⟩ = pure (ps.zip us)) : Binds K fd ps []:=by
  obtain ⟨oc,od,kV,doc,pm,an,cdv,ct,osl,rfl,lk,hcd⟩:=F.ex
  exact .all (h kV doc pm an cdv ct)
theorem fun_mk {x qual : Str} {st : Stmt} {f : Addr} {oc : Value} {od an : Option Addr} {osl : Array (Option Value)} {kV doc pm cdv ct : Value} (l : K.lookup f = some ⟨oc,od,.func (PySem.W.fnOf x qual (defArgs st) (defBody st) (defScope st) .none kV doc pm an cdv ct),osl⟩)
    (c : PySem.W.codeIn K cdv qual = true) (k : PySem.W.keepIn K (.ref f) = true) : Fun K x qual st f (PySem.W.fnOf x qual (defArgs st) (defBody st) (defScope st) .none kV doc pm an cdv ct):=⟨⟨oc,od,kV,doc,pm,an,cdv,ct,osl,rfl,l,c⟩,k⟩
end
section
variable {X : Cx}
theorem pv (i : Nat) {x : Str} {pos : Pos} (hN : X.N[i]? = some x:=by rfl) (hv : Vis X.env.scope x:=by first | exact Or.inl rfl | exact Or.inr (Or.inl rfl) | exact Or.inr (Or.inr rfl)) (hd : (x == ("__debug__" : Str)) = false:=by decide)
    (hcd : (x == ("__classdict__" : Str)) = false:=by decide) : PE X (.Name x pos) (tVar i):=pe_var hN hv hd hcd
end
theorem iteT {A B : Prop} (h : A) : if true = true then A else B:=by
  rw [if_pos rfl]
  exact h
def Same (H H' : Hp) : Prop:=∀ b o,H b = some o -> H' b = some o
theorem Same.refl (H : Hp) : Same H H:=fun _ _ h=>h
end L2
namespace L2
open PySem PySem.Spec PyProof.Rows
theorem closure_of {scope : Scope} {env : Env} (h : ∀ x ∈ scope.names,x.2 = .free -> ∃ c,env.cells.lookup x.1 = some c) :
    ∃ cl,closureFor scope env = pure cl /\ (∀ x c,cl.lookup x = some c -> env.cells.lookup x = some c) /\ (∀ x ∈ scope.names,x.2 = .free -> ∃ c,cl.lookup x.1 = some c):=by
  have key : ∀ (l : List (Str × NameKind)) (acc : List (Str × Addr)),(∀ x ∈ l,x.2 = .free -> ∃ c,env.cells.lookup x.1 = some c) -> (∀ x c,acc.lookup x = some c -> env.cells.lookup x = some c) ->
      ∃ cl,(forIn l acc fun (x : Str × NameKind) (r : List (Str × Addr))=>(match x with
        | (name,kind)=>if (kind == NameKind.free) = true then (do let c <- cellOf env name; pure (ForInStep.yield ((name,c) :: r))) else (do pure PUnit.unit; pure (ForInStep.yield r)) : Sem (ForInStep (List (Str × Addr))))) = pure cl /\
        (∀ x c,cl.lookup x = some c -> env.cells.lookup x = some c) /\ (∀ x ∈ l,x.2 = .free -> ∃ c,cl.lookup x.1 = some c) /\ (∀ x c,acc.lookup x = some c -> ∃ c',cl.lookup x = some c'):=by
    intro l
    induction l with
    | nil=>intro acc _ ha; exact ⟨acc,rfl,ha,fun x hx=>(by simp at hx),fun x c e=>⟨c,e⟩⟩
    | cons x r ih=>
      intro acc hl ha
      obtain ⟨n,k⟩:=x
      by_cases hk : k = .free
      · subst hk
        obtain ⟨c,hc⟩:=hl (n,.free) List.mem_cons_self rfl
        have ha' : ∀ x c',((n,c) :: acc).lookup x = some c' -> env.cells.lookup x = some c':=fun x c' e=>by
          rw [List.lookup_cons] at e
          by_cases hx : x = n
          · subst hx; simp at e; rw [<- e]; exact hc
          · have : (x == n) = false:=by simpa using hx
            rw [this] at e; exact ha x c' e
        obtain ⟨cl,e1,e2,e3,e4⟩:=ih ((n,c) :: acc) (fun y hy=>hl y (List.mem_cons_of_mem _ hy)) ha'
        refine ⟨cl,?_,e2,fun y hy hf=>?_,fun y c' e=>?_⟩
        · rw [List.forIn_cons]
          have hcell : cellOf env n = pure c:=by unfold cellOf; rw [hc]
          simp only [beq_self_eq_true,if_true,hcell]
          exact e1
        · rcases List.mem_cons.mp hy with e | hy
          · subst e
            exact e4 n c (by simp)
          · exact e3 y hy hf
        · by_cases hy : y = n
          · subst hy; exact e4 y c (by simp)
          · have : (y == n) = false:=by simpa using hy
            exact e4 y c' (by rw [List.lookup_cons,this]; exact e)
      · obtain ⟨cl,e1,e2,e3,e4⟩:=ih acc (fun y hy=>hl y (List.mem_cons_of_mem _ hy)) ha
        refine ⟨cl,?_,e2,fun y hy hf=>?_,e4⟩
        · rw [List.forIn_cons]
          have : (k == NameKind.free) = false:=by simpa using hk
          simp only [this,Bool.false_eq_true,if_false]
          exact e1
        · rcases List.mem_cons.mp hy with e | hy
          · subst e; exact absurd hf hk
          · exact e3 y hy hf
  obtain ⟨cl,e1,e2,e3,_⟩:=key scope.names [] h (fun x c e=>by simp at e)
  refine ⟨cl,?_,e2,e3⟩
  unfold closureFor
  exact (congrArg (fun z=>z >>= pure) e1).trans rfl
theorem lookup_relab (f : Str -> NameKind -> NameKind) (x : Str) : ∀ l : List (Str × NameKind),(l.map fun y=>(y.1,f y.1 y.2)).lookup x = (l.lookup x).map (f x)
  | []=>rfl
  | (n,k) :: r=>by
    have ih:=lookup_relab f x r
    rw [List.map_cons,List.lookup_cons,List.lookup_cons]
    by_cases hx : x = n
    · subst hx; simp
    · have hb : (x == n) = false:=by simpa using hx
      rw [hb]; exact ih
theorem relabel_lookup {scope : Scope} {env : Env} {x : Str} : (relabel scope env).names.lookup x =
    (scope.names.lookup x).map fun k=>if (k == .free && env.scope.kind == .function && env.kindOf x == some .cell) then .cell else k:=by
  rw [<- lookup_relab (fun n k=>if (k == .free && env.scope.kind == .function && env.kindOf n == some .cell) then .cell else k)]
  unfold relabel
  refine congrArg (List.lookup x) (List.map_congr_left fun y _=>?_)
  obtain ⟨n,k⟩:=y
  show (if (k == NameKind.free && env.scope.kind == .function && env.kindOf n == some .cell) = true then (n,NameKind.cell) else (n,k)) = _
  split <;> rfl
def compOk (N N' : List Str) (sc scE : Scope) (cap : List (Option Nat)) : Bool:=
  sc.kind == .function && sc.names.all (fun x=>x.2 != .cell) && sc.names.all (fun x=>x.2 != .local || sc.names.lookup x.1 == some .local) &&
  sc.names.all (fun x=>x.2 != .free || scE.names.lookup x.1 == some .cell || scE.names.lookup x.1 == some .free) && cap.length == N'.length &&
  (List.range cap.length).all (fun i=>match cap[i]? with
    | some (some j)=>(match N'[i]?,N[j]? with | some a,some b=>a == b && sc.names.lookup a == some .free | _,_=>false)
    | _=>true)
structure CompOk (N N' : List Str) (sc scE : Scope) (cap : List (Option Nat)) : Prop where
  kind : sc.kind = .function
  nocell : ∀ x ∈ sc.names,x.2 ≠ .cell
  loc : ∀ x ∈ sc.names,x.2 = .local -> sc.names.lookup x.1 = some .local
  fre : ∀ x ∈ sc.names,x.2 = .free -> scE.names.lookup x.1 = some .cell \/ scE.names.lookup x.1 = some .free
  len : cap.length = N'.length
  at_ : ∀ (i j : Nat),cap[i]? = some (some j) -> ∃ x,N'[i]? = some x /\ N[j]? = some x /\ sc.names.lookup x = some .free
def capOf (cap : List (Option Nat)) (σ : St) : St:=cap.map fun c=>c.bind fun j=>(σ[j]?).join
section
variable {prog : Program} {w : World} {A : Around} {R : Result -> Shared -> Prop} {s : Shared}
end
section
variable {X : Cx}
theorem HOk.same {P : Program} {w : World} {H : Hp} {h h' : Heap} {a : Addr} (ok : HOk P w H h) (hn : H a = none) (hs : Heap.SameBut a h h') : HOk P w H h':=fun b ob e=>by
  refine (ok b ob e).stay (fun c w' hc q=>(hs.2 c ?_).trans q) (fun _ q=>q) fun _ _ q=>q
  rintro rfl
  rcases hc with rfl | hc
  · rw [hn] at e; cases e
  · rw [hn] at hc; cases hc
end
end L2
namespace L2
open PySem PySem.Spec PyProof.Rows
def HasItems (t : Bool) (h : Heap) (a : Addr) (items : Array Value) : Prop:=if t = true then h.IsTuple a items else h.IsList a items
def IterAt (t : Bool) (h : Heap) (it a : Addr) (i : Nat) : Prop:=if t = true then h.IsTupleIter it a i else h.IsListIter it a i
theorem HasItems.at {t : Bool} {h h' : Heap} {a : Addr} {items : Array Value} (x : HasItems t h a items) (k : ∀ o,h.get? a = some o -> h'.get? a = some o) : HasItems t h' a items:=by
  cases t
  · exact Heap.IsList.at x k
  · obtain ⟨o,e,r⟩:=x
    exact ⟨o,k o e,r⟩
theorem HasItems.there {t : Bool} {h : Heap} {a : Addr} {items : Array Value} (x : HasItems t h a items) : ∃ o,h.get? a = some o:=by
  cases t
  · obtain ⟨o,e,_⟩:=x; exact ⟨o,e⟩
  · obtain ⟨o,e,_⟩:=x; exact ⟨o,e⟩
theorem IterAt.at {t : Bool} {h h' : Heap} {it a : Addr} {i : Nat} (x : IterAt t h it a i) (k : ∀ o,h.get? it = some o -> h'.get? it = some o) : IterAt t h' it a i:=by
  cases t
  · exact Heap.IsListIter.at x k
  · obtain ⟨o,e,r⟩:=x
    exact ⟨o,k o e,r⟩
theorem IterAt.there {t : Bool} {h : Heap} {it a : Addr} {i : Nat} (x : IterAt t h it a i) : ∃ o,h.get? it = some o /\ ∀ v,o.data ≠ .cell v:=by
  cases t
  · obtain ⟨o,e,_,d⟩:=x; exact ⟨o,e,fun v z=>by rw [d] at z; cases z⟩
  · obtain ⟨o,e,_,d⟩:=x; exact ⟨o,e,fun v z=>by rw [d] at z; cases z⟩
section
variable {prog : Program} {w : World} {A : Around} {E : Value -> Shared -> Prop} {s : Shared}
theorem nextOf_tuple_item {it l : Addr} {i : Nat} {items} {x : Value} {Q : Value -> Shared -> Prop} (hit : s.heap.IsTupleIter it l i)
    (hl : s.heap.IsTuple l items) (hx : items[i]? = some x)
    (hQ : ∀ h',h'.IsTupleIter it l (i + 1) -> Heap.SameBut it s.heap h' -> Q x { s with heap:=h' }) :
    wpAny (model prog w) A (Builtin.SmallTypes.nextOf (.ref it)) Q E s:=by
  obtain ⟨o,ho,hc,hd⟩:=id hit
  obtain ⟨ol,hol,_,nl,hdl⟩:=hl
  unfold Builtin.SmallTypes.nextOf
  refine wpAny_bind (wpAny_callSpecial?_slot (name:=Str.ofString "__next__") hit.typeIs F.slot_tuple_iterator_next
    (wpAny_call_entry F.slot_tuple_iterator_next hit.typeIs F.entry_tuple_iterator_next ?_ (F.args_tuple_iterator_next_1 _)))
  show wpAny _ _ (field (.ref it) 0 >>= _) _ _ s
  refine wpAny_bind (wpAny_field ho hd (x:=.ref l) rfl ?_)
  show wpAny _ _ (if (Value.ref l == Value.none) = true then _ else _) _ _ s
  rw [if_neg (show ¬ ((Value.ref l == Value.none) = true) from Bool.false_ne_true)]
  show wpAny _ _ (field (.ref it) 1 >>= _) _ _ s
  refine wpAny_bind (wpAny_field ho hd (x:=.int i 0) rfl ?_)
  show wpAny _ _ (seqItems? (.ref l) >>= _) _ _ s
  refine wpAny_bind (wpAny_seqItems hol hdl ?_)
  simp only [Int.toNat_natCast,hx]
  refine wpAny_bind (wpAny_setField ho hd (by simp) (wpAny_pure ⟨x,rfl,wpAny_pure (hQ _ ?_ (Heap.SameBut.update ..))⟩))
  exact ⟨_,Heap.get?_update_self _ ho (Obj.isFreed_of_fields (Obj.data_mapFields hd _)),(Obj.cls_mapFields ..).trans hc,by
    rw [Obj.data_mapFields hd]; simp [rawInt]⟩
theorem nextOf_tuple_end {it l : Addr} {i : Nat} {items} {Q : Value -> Shared -> Prop} (hh : A.handled = none)
    (hit : s.heap.IsTupleIter it l i) (hl : s.heap.IsTuple l items) (hx : items[i]? = none)
    (hE : ∀ h' e,Heap.ExtBut it s.heap h' -> (∃ o,h'.get? e = some o /\ o.cls = .type "StopIteration") -> E (.ref e) { s with heap:=h' }) :
    wpAny (model prog w) A (Builtin.SmallTypes.nextOf (.ref it)) Q E s:=by
  obtain ⟨o,ho,hc,hd⟩:=id hit
  obtain ⟨ol,hol,_,nl,hdl⟩:=hl
  unfold Builtin.SmallTypes.nextOf
  refine wpAny_bind (wpAny_callSpecial?_slot (name:=Str.ofString "__next__") hit.typeIs F.slot_tuple_iterator_next
    (wpAny_call_entry F.slot_tuple_iterator_next hit.typeIs F.entry_tuple_iterator_next ?_ (F.args_tuple_iterator_next_1 _)))
  show wpAny _ _ (field (.ref it) 0 >>= _) _ _ s
  refine wpAny_bind (wpAny_field ho hd (x:=.ref l) rfl ?_)
  show wpAny _ _ (if (Value.ref l == Value.none) = true then _ else _) _ _ s
  rw [if_neg (show ¬ ((Value.ref l == Value.none) = true) from Bool.false_ne_true)]
  show wpAny _ _ (field (.ref it) 1 >>= _) _ _ s
  refine wpAny_bind (wpAny_field ho hd (x:=.int i 0) rfl ?_)
  show wpAny _ _ (seqItems? (.ref l) >>= _) _ _ s
  refine wpAny_bind (wpAny_seqItems hol hdl ?_)
  simp only [Int.toNat_natCast,hx]
  refine wpAny_bind (wpAny_rule (wpAny_bind (wpAny_setField ho hd (by simp) ?_)))
  show wpAny _ _ (newExc (.type "StopIteration") [] >>= _) _ _ _
  refine wpAny_bind ?_
  simp only [newExc,newTuple]
  refine wpAny_bind (wpAny_newObj_type ?_ (by size_fits))
  refine wpAny_bind (m:=firstArgMember _ _) (wpAny_of_eq (a:=Value.none) (by first | rfl | (simp only [firstArgMember]; rfl)) ?_)
  refine wpAny_newObj_type ?_ (by size_fits)
  simp only [raiseNew]
  refine wpAny_bind (wpAny_handled ?_)
  first | rw [show A.in1.handled = none from hh] | rw [hh]
  refine wpAny_bind (wpAny_pure (wpAny_throw ?_))
  exact hE _ _ (((Heap.SameBut.update ..).extBut.push _).push _) ⟨_,Heap.get?_push_size _ rfl,rfl⟩
theorem nextOf_item {t : Bool} {it l : Addr} {i : Nat} {items : Array Value} {x : Value} {Q : Value -> Shared -> Prop} (hit : IterAt t s.heap it l i)
    (hl : HasItems t s.heap l items) (hx : items[i]? = some x)
    (hQ : ∀ h',IterAt t h' it l (i + 1) -> Heap.SameBut it s.heap h' -> Q x { s with heap:=h' }) :
    wpAny (model prog w) A (Builtin.SmallTypes.nextOf (.ref it)) Q E s:=by
  cases t
  · exact wpAny_nextOf_list_item hit hl hx hQ
  · exact nextOf_tuple_item hit hl hx hQ
theorem nextOf_end {t : Bool} {it l : Addr} {i : Nat} {items : Array Value} {Q : Value -> Shared -> Prop} (hh : A.handled = none)
    (hit : IterAt t s.heap it l i) (hl : HasItems t s.heap l items) (hx : items[i]? = none)
    (hE : ∀ h' e,Heap.ExtBut it s.heap h' -> (∃ o,h'.get? e = some o /\ o.cls = .type "StopIteration") -> E (.ref e) { s with heap:=h' }) :
    wpAny (model prog w) A (Builtin.SmallTypes.nextOf (.ref it)) Q E s:=by
  cases t
  · exact wpAny_nextOf_list_end hh hit hl hx hE
  · exact nextOf_tuple_end hh hit hl hx hE
def iterObj (t : Bool) (l : Addr) : Obj:=if t = true then { cls:=.type "tuple_iterator",data:=.fields #[.ref l,.int 0 0] } else { cls:=.type "list_iterator",data:=.fields #[.ref l,.int 0 0] }
theorem pyIter_seq {t : Bool} {l : Addr} {items : Array Value} {Q : Value -> Shared -> Prop} (hl : HasItems t s.heap l items)
    (hQ : Q (.ref s.heap.objs.size) { s with heap:=s.heap.push (iterObj t l) }) : wpAny (model prog w) A (pyIter (.ref l)) Q E s:=by
  cases t
  · exact wpAny_pyIter_list hl hQ
  · exact wpAny_pyIter_tuple hl hQ
theorem iterObj_at {t : Bool} {h : Heap} {it l : Addr} (e : h.get? it = some (iterObj t l)) : IterAt t h it l 0:=by
  cases t
  · exact ⟨_,e,rfl,rfl⟩
  · exact ⟨_,e,rfl,rfl⟩
theorem iterObj_free (t : Bool) (l : Addr) : (iterObj t l).isFreed = false:=by cases t <;> rfl
end
section
variable {prog : Program} {w : World} {A : Around} {E : Value -> Shared -> Prop} {s : Shared}
end
def SqK (K : PySem.W.Frag) (t : Bool) (H : Hp) (a : Addr) (xs : List V) : Prop:=if t = true then SqT K H a xs else SqL K H a xs
section
variable {X : Cx} {pins : List (Addr × Obj)} {σ : St} {H : Hp} {s : Shared}
theorem Inv.seqK {t : Bool} {a : Addr} {xs : List V} (I : Inv X pins σ H s) (h : SqK X.K t H a xs) : ∃ its : List Value,Vals xs its /\ HasItems t s.heap a its.toArray /\ xs.length <= sizeLine:=by
  cases t
  · obtain ⟨its,r,p,z⟩:=I.list h
    exact ⟨its,r,p.isList,z⟩
  · obtain ⟨its,r,p,z⟩:=I.tuple h
    exact ⟨its,r,p,z⟩
theorem Inv.seqK_inj {t : Bool} {a : Addr} {xs ys : List V} (I : Inv X pins σ H s) (h : SqK X.K t H a xs) (h' : SqK X.K t H a ys) : xs = ys:=by
  cases t
  · exact I.list_inj h h'
  · exact I.tuple_inj h h'
theorem Inv.turnedL {t' : Nat} {its : List Addr} {h' : Heap} (I : Inv X pins σ H s) (k : ∀ b o,b ∉ its -> s.heap.get? b = some o -> h'.get? b = some o) (hf : ∀ b ∈ its,FpOk X pins H b) : Inv X pins σ H { s with heap:=h',toks:=t' }:=by
  have nit : ∀ b u,H b = some u -> b ∉ its:=fun b u e z=>by rw [(hf b z).1] at e; cases e
  refine I.step (g':=s.gens) (d':=s.drawn) (ch:=its) (fun b hb=>?_) (fun b o _ _ hc e _=>k b o hc e) (fun b o _ _ hc e _=>⟨o.slots,k b o hc e⟩) (fun _ _ _ _ n=>n)
    (fun b o hc e=>⟨o,k b o hc e⟩) (fun _ _ e=>e) (fun _ _ _ e=>e) (fun b ps e=>⟨#[],by rw [e]; simp⟩) (fun m hm=>?_) (fun b u e=>?_) I.bare
  · obtain ⟨f0,f1,f2,f3,f4,f5⟩:=hf b hb
    exact ⟨f3,f1,f4,f5⟩
  · obtain ⟨o,es,ep,ho,r⟩:=hm
    exact ⟨o,es,ep,k _ o (fun z=>(hf _ z).2.1 rfl) ho,r⟩
  · refine (I.hok b u e).stay (fun c v hc q=>k c v ?_ q) (fun _ q=>q) fun _ _ q=>q
    rcases hc with z | z
    · rw [z]; exact nit b u e
    · exact nit c _ z
end
section
variable {X : Cx}
end
end L2
namespace L2
open PySem PySem.Spec PyProof.Rows
theorem walksK {prog : Program} {w : World} {A : Around} (hh : A.handled = none) (t : Bool) (I ax : Addr) (hne : ax ≠ I) (items : Array Value) :
    Walks prog w A I [I,ax] [I] items.size (fun i v=>items[i]? = some v) (fun i h=>IterAt t h I ax i /\ HasItems t h ax items):=by
  cases t
  · exact Walks.list hh I ax hne items
  · exact Walks.tuple hh I ax hne items
theorem getD_at {α : Type} (l : List α) (d : α) {n : Nat} (h : n < l.length) : l.getD n d = l[n]:=by simp [List.getD,h]
theorem preSum_list (ns : List Int) : preSum (fun j=>ns.getD j 0) ns.length = ns.sum:=by
  have key : ∀ (k : Nat),k <= ns.length -> preSum (fun j=>ns.getD j 0) k = (ns.take k).sum:=by
    intro k
    induction k with
    | zero=>intro _; rfl
    | succ k ih=>
      intro hk
      show preSum _ k + ns.getD k 0 = _
      have hlt : k < ns.length:=by omega
      rw [ih (by omega),List.take_succ,List.sum_append,getD_at _ _ hlt,List.getElem?_eq_getElem hlt]
      simp
  rw [key ns.length (Nat.le_refl _),List.take_length]
section
variable {X : Cx} {pins : List (Addr × Obj)} {σ : St} {H : Hp} {s : Shared}
theorem Inv.movedNew {s' : Shared} (I : Inv X pins σ H s) {o : Obj} (m : Moved [s.heap.objs.size] (fun a b=>b = a) { s with heap:=s.heap.push o } s') : Inv X pins σ H s':=by
  obtain ⟨m1,m2,m3,m4,m5⟩:=m
  obtain ⟨h',g',d',t',o'⟩:=s'
  have e1 : g' = s.gens:=m2
  have e2 : d' = s.drawn:=m3
  have e3 : o' = s.os:=m4
  subst e1 e2 e3
  refine I.kept (t':=t') fun b u e=>m1 b u (fun z=>?_) (Heap.get?_push_of_some _ e)
  have : b = s.heap.objs.size:=by simpa using z
  exact absurd (Heap.lt_size e) (by rw [this]; exact Nat.lt_irrefl _)
theorem ints_get {ns : List Int} {its : List Value} (r : Vals (ns.map V.int) its) : ∀ (i : Nat) (v : Value),its.toArray[i]? = some v -> ∃ t,v = Value.int (ns.getD i 0) t:=fun i v e=>by
  have e' : its[i]? = some v:=by simpa using e
  have hi : i < its.length:=(List.getElem?_eq_some_iff.mp e').1
  have hl:=r.length
  rw [List.length_map] at hl
  have hn : (ns.map V.int)[i]? = some (V.int (ns.getD i 0)):=by
    have : i < ns.length:=by omega
    simp [List.getD,this]
  obtain ⟨u,hu,t,ru⟩:=r.get hn
  rw [e'] at hu
  cases hu
  exact ⟨t,ru⟩
theorem bools_get {bs : List Bool} {its : List Value} (r : Vals (bs.map V.bl) its) : ∀ (i : Nat) (v : Value),its.toArray[i]? = some v -> v = Value.bool (bs.getD i false):=fun i v e=>by
  have e' : its[i]? = some v:=by simpa using e
  have hi : i < its.length:=(List.getElem?_eq_some_iff.mp e').1
  have hl:=r.length
  rw [List.length_map] at hl
  have hn : (bs.map V.bl)[i]? = some (V.bl (bs.getD i false)):=by
    have : i < bs.length:=by omega
    simp [List.getD,this]
  obtain ⟨u,hu,ru⟩:=r.get hn
  rw [e'] at hu
  cases hu
  exact ru
theorem iterObj_walk {t : Bool} {l : Addr} {items : Array Value} (hl : HasItems t s.heap l items) : l ≠ s.heap.objs.size /\
    (IterAt t (s.heap.push (iterObj t l)) s.heap.objs.size l 0 /\ HasItems t (s.heap.push (iterObj t l)) l items) /\ ∀ b ∈ [s.heap.objs.size,l],b < (s.heap.push (iterObj t l)).objs.size:=by
  obtain ⟨o,e⟩:=hl.there
  have hlt:=Heap.lt_size e
  refine ⟨Nat.ne_of_lt hlt,⟨iterObj_at (Heap.get?_push_size _ (iterObj_free _ _)),hl.at fun o e=>Heap.get?_push_of_some _ e⟩,fun b hb=>?_⟩
  rw [Heap.size_push]
  simp at hb
  rcases hb with rfl | rfl
  · exact Nat.lt_succ_self _
  · exact Nat.lt_succ_of_lt hlt
end
section
variable {X : Cx}
theorem call_sum (t : Bool) (hc : X.calm = true) : CallR X (.builtin "sum") (fun xs H Q=>∃ (a : Addr) (ns : List Int),xs = [.ref a] /\ SqK X.K t H a (ns.map V.int) /\ Q (.int ns.sum) H):=by
  intro pins s σ H xs us Q I r h
  obtain ⟨a,ns,rfl,hq,q⟩:=h
  obtain ⟨u,rfl,r1⟩:=vals1 r
  cases r1
  obtain ⟨its,rv,p,_⟩:=I.seqK hq
  obtain ⟨w1,w2,w3⟩:=iterObj_walk p
  have hl:=rv.length
  rw [List.length_map] at hl
  refine call_sum_walkAnyS (pyIter_seq p ⟨_,_,_,_,_,_,_,fun j=>ns.getD j 0,rfl,(walksK (A:=X.A.in1) (I.ok.hd hc) t _ a w1 its.toArray).toS,w2,w3,ints_get rv,fun s' t' m=>?_⟩)
  refine ⟨.int ns.sum,H,I.movedNew m,⟨t',?_⟩,q⟩
  rw [List.size_toArray,<- hl,preSum_list]
theorem range_all (bs : List Bool) : (List.range bs.length).all (fun i=>bs.getD i false) = bs.all id:=by
  induction bs with
  | nil=>rfl
  | cons b r ih=>
    rw [List.length_cons,List.range_succ_eq_map,List.all_cons,List.all_map,List.all_cons,<- ih]
    rfl
theorem range_any (bs : List Bool) : (List.range bs.length).any (fun i=>bs.getD i false) = bs.any id:=by
  induction bs with
  | nil=>rfl
  | cons b r ih=>
    rw [List.length_cons,List.range_succ_eq_map,List.any_cons,List.any_map,List.any_cons,<- ih]
    rfl
theorem call_all (t : Bool) (hc : X.calm = true) : CallR X (.builtin "all") (fun xs H Q=>∃ (a : Addr) (bs : List Bool),xs = [.ref a] /\ SqK X.K t H a (bs.map V.bl) /\ Q (.bl (bs.all id)) H):=by
  intro pins s σ H xs us Q I r h
  obtain ⟨a,bs,rfl,hq,q⟩:=h
  obtain ⟨u,rfl,r1⟩:=vals1 r
  cases r1
  obtain ⟨its,rv,p,_⟩:=I.seqK hq
  obtain ⟨w1,w2,w3⟩:=iterObj_walk p
  have hl:=rv.length
  rw [List.length_map] at hl
  refine call_all_walkS (pyIter_seq p ⟨_,_,_,_,_,_,_,fun j=>bs.getD j false,rfl,(walksK (A:=X.A.in1) (I.ok.hd hc) t _ a w1 its.toArray).toS,w2,fun i v s' Q' E' hv hQ=>?_,fun s' m=>?_⟩)
  · rw [bools_get rv i v hv]
    exact wpAny_truthy_bool hQ
  · refine ⟨.bl (bs.all id),H,I.movedNew m,?_,q⟩
    show Value.bool _ = _
    rw [List.size_toArray,<- hl,range_all]
theorem call_any (t : Bool) (hc : X.calm = true) : CallR X (.builtin "any") (fun xs H Q=>∃ (a : Addr) (bs : List Bool),xs = [.ref a] /\ SqK X.K t H a (bs.map V.bl) /\ Q (.bl (bs.any id)) H):=by
  intro pins s σ H xs us Q I r h
  obtain ⟨a,bs,rfl,hq,q⟩:=h
  obtain ⟨u,rfl,r1⟩:=vals1 r
  cases r1
  obtain ⟨its,rv,p,_⟩:=I.seqK hq
  obtain ⟨w1,w2,w3⟩:=iterObj_walk p
  have hl:=rv.length
  rw [List.length_map] at hl
  refine call_any_walkS (pyIter_seq p ⟨_,_,_,_,_,_,_,fun j=>bs.getD j false,rfl,(walksK (A:=X.A.in1) (I.ok.hd hc) t _ a w1 its.toArray).toS,w2,fun i v s' Q' E' hv hQ=>?_,fun s' m=>?_⟩)
  · rw [bools_get rv i v hv]
    exact wpAny_truthy_bool hQ
  · refine ⟨.bl (bs.any id),H,I.movedNew m,?_,q⟩
    show Value.bool _ = _
    rw [List.size_toArray,<- hl,range_any]
theorem call_maxL (t : Bool) (hc : X.calm = true) : CallR X (.builtin "max") (fun xs H Q=>∃ (a : Addr) (ns : List Int),xs = [.ref a] /\ SqK X.K t H a (ns.map V.int) /\ ns ≠ [] /\ ∀ m,m ∈ ns -> (∀ k,k ∈ ns -> k <= m) -> Q (.int m) H):=by
  intro pins s σ H xs us Q I r h
  obtain ⟨a,ns,rfl,hq,hne,q⟩:=h
  obtain ⟨u,rfl,r1⟩:=vals1 r
  cases r1
  obtain ⟨its,rv,p,_⟩:=I.seqK hq
  obtain ⟨w1,w2,w3⟩:=iterObj_walk p
  have hl:=rv.length
  rw [List.length_map] at hl
  have hpos : 0 < ns.length:=List.length_pos_iff.mpr hne
  refine call_max_walkS (pyIter_seq p ⟨_,_,_,_,_,_,_,_,rfl,(walksK (A:=X.A.in1) (I.ok.hd hc) t _ a w1 its.toArray).toS,w2,w3,by rw [List.size_toArray]; omega,CmpOf.ints_gt (fun j=>ns.getD j 0) (fun i v hv=>ints_get rv i v hv),fun v s' hv m=>?_⟩)
  obtain ⟨t',rfl⟩:=ints_get rv _ _ hv
  obtain ⟨h1,h2⟩:=argBest_gt (fun j=>ns.getD j 0) (its.toArray.size - 1)
  have hb : argBest (fun i j=>decide (ns.getD i 0 > ns.getD j 0)) (its.toArray.size - 1) < ns.length:=by
    have e' : its.toArray.size = ns.length:=by rw [List.size_toArray]; omega
    rw [e'] at h1 ⊢
    exact Nat.lt_of_le_of_lt h1 (by omega)
  refine ⟨.int (ns.getD (argBest (fun i j=>decide (ns.getD i 0 > ns.getD j 0)) (its.toArray.size - 1)) 0),H,I.movedNew m,⟨t',rfl⟩,q _ ?_ fun k hk=>?_⟩
  · rw [getD_at _ _ hb]
    exact List.getElem_mem hb
  · obtain ⟨j,hj,rfl⟩:=List.mem_iff_getElem.mp hk
    have:=h2 j (by rw [List.size_toArray]; omega)
    rw [getD_at _ _ hj] at this
    exact this
theorem call_minL (t : Bool) (hc : X.calm = true) : CallR X (.builtin "min") (fun xs H Q=>∃ (a : Addr) (ns : List Int),xs = [.ref a] /\ SqK X.K t H a (ns.map V.int) /\ ns ≠ [] /\ ∀ m,m ∈ ns -> (∀ k,k ∈ ns -> m <= k) -> Q (.int m) H):=by
  intro pins s σ H xs us Q I r h
  obtain ⟨a,ns,rfl,hq,hne,q⟩:=h
  obtain ⟨u,rfl,r1⟩:=vals1 r
  cases r1
  obtain ⟨its,rv,p,_⟩:=I.seqK hq
  obtain ⟨w1,w2,w3⟩:=iterObj_walk p
  have hl:=rv.length
  rw [List.length_map] at hl
  have hpos : 0 < ns.length:=List.length_pos_iff.mpr hne
  refine call_min_walkS (pyIter_seq p ⟨_,_,_,_,_,_,_,_,rfl,(walksK (A:=X.A.in1) (I.ok.hd hc) t _ a w1 its.toArray).toS,w2,w3,by rw [List.size_toArray]; omega,CmpOf.ints_lt (fun j=>ns.getD j 0) (fun i v hv=>ints_get rv i v hv),fun v s' hv m=>?_⟩)
  obtain ⟨t',rfl⟩:=ints_get rv _ _ hv
  obtain ⟨h1,h2⟩:=argBest_lt (fun j=>ns.getD j 0) (its.toArray.size - 1)
  have hb : argBest (fun i j=>decide (ns.getD i 0 < ns.getD j 0)) (its.toArray.size - 1) < ns.length:=by
    have e' : its.toArray.size = ns.length:=by rw [List.size_toArray]; omega
    rw [e'] at h1 ⊢
    exact Nat.lt_of_le_of_lt h1 (by omega)
  refine ⟨.int (ns.getD (argBest (fun i j=>decide (ns.getD i 0 < ns.getD j 0)) (its.toArray.size - 1)) 0),H,I.movedNew m,⟨t',rfl⟩,q _ ?_ fun k hk=>?_⟩
  · rw [getD_at _ _ hb]
    exact List.getElem_mem hb
  · obtain ⟨j,hj,rfl⟩:=List.mem_iff_getElem.mp hk
    have:=h2 j (by rw [List.size_toArray]; omega)
    rw [getD_at _ _ hj] at this
    exact this
end
theorem drawsK {prog : Program} {w : World} {A : Around} (hh : A.handled = none) (t : Bool) (it l : Addr) (hne : l ≠ it) (items : Array Value) :
    Draws prog w A it [it,l] items.size (fun i v=>items[i]? = some v) (fun i h=>IterAt t h it l i /\ HasItems t h l items) where
  live:=fun _ _ st=>let ⟨o,e,_⟩:=st.1.there; ⟨o,e⟩
  frame:=fun _ _ _ st hk=>⟨st.1.at fun o e=>hk it (by simp) o e,st.2.at fun o e=>hk l (by simp) o e⟩
  item:=fun i s Q E hi st hQ=>by
    refine nextOf_item st.1 st.2 (x:=items[i]) (by simp [hi]) fun h' hit' hs'=>?_
    exact hQ _ h' s.toks (by simp [hi]) ⟨hit',st.2.at fun o e=>hs'.extBut _ _ hne e⟩ hs'
  done:=fun s Q E st hE=>nextOf_end hh st.1 st.2 (by simp) hE
theorem meets_enumT (l : Addr) (items : Array Value) (n : Nat) (dct : Option Addr) (sl : Array (Option Value)) :
    Meets (Builtin.«enumerate.__new__» ⟨[.type "enumerate",.ref l],[]⟩) (fun _ R s=>s.heap.get? l = some { cls:=.type "tuple",dict:=dct,data:=.seq items n,slots:=sl } /\
      R (.ok (.ret (.ref (s.heap.push { cls:=.type "tuple_iterator",data:=.fields #[.ref l,.int 0 0] }).objs.size)))
        { s with heap:=(s.heap.push { cls:=.type "tuple_iterator",data:=.fields #[.ref l,.int 0 0] }).push { cls:=.type "enumerate",data:=.fields #[.none,.bool false,.ref s.heap.objs.size,rawInt 0,.none,.none] } }):=
  .of_wp fun prog w A R s h=>by
    obtain ⟨hp,g,d,tk,os⟩:=s; obtain ⟨hl,h⟩:=h
    have hsub:=sub_enumerate
    have hL : Heap.IsTuple (Shared.heap ⟨hp,g,d,tk,os⟩) l items:=⟨_,hl,rfl,n,rfl⟩
    wp_walk using AutoSeq1.wpAny_loadPart' hl
    refine wpAny_stack_any fun st=>wpAny_pure ?_
    split
    · rename_i c _ _ _ _ _
      cases (c == Value.type "enumerate")
      · wp_walk using AutoSeq1.wpAny_loadPart' hl,wpAny_pyIter_tuple hL
        exact ⟨_,rfl,h⟩
      · wp_walk using AutoSeq1.wpAny_loadPart' hl,wpAny_pyIter_tuple hL
        exact ⟨_,rfl,h⟩
    · wp_walk using AutoSeq1.wpAny_loadPart' hl,wpAny_pyIter_tuple hL
      exact ⟨_,rfl,h⟩
section
variable {prog : Program} {w : World} {A : Around} {E : Value -> Shared -> Prop} {s : Shared}
theorem call_enumT {l : Addr} {items : Array Value} {Q : Value -> Shared -> Prop} (hL : s.heap.IsTuple l items)
    (h : ∀ h',IsEnum h' (s.heap.objs.size + 1) s.heap.objs.size 0 .none -> h'.IsTupleIter s.heap.objs.size l 0 -> h'.objs.size = s.heap.objs.size + 2 ->
      (∀ b o,s.heap.get? b = some o -> h'.get? b = some o) -> Q (.ref (s.heap.objs.size + 1)) { s with heap:=h' }) :
    wpAny (model prog w) A (call (.type "enumerate") [.ref l]) Q E s:=by
  obtain ⟨⟨c,dct,dt,sl⟩,hl,hc,n,hd⟩:=hL
  replace hc : c = .type "tuple" := hc
  replace hd : dt = .seq items n:=hd
  subst hc hd
  refine callType_new F.called_enumerate (by decide) (F.typeCall_enumerate_1 _) (F.newCall_enumerate_1 _) (fun obj=>F.args_object_init_2 obj _) F.entry_enumerate_new
    (meets_enumT l items n dct sl) ⟨hl,?_⟩
  have hz : (s.heap.push { cls:=.type "tuple_iterator",data:=.fields #[.ref l,.int 0 0] }).objs.size = s.heap.objs.size + 1:=Heap.size_push ..
  show _ /\ _
  rw [hz]
  have he : IsEnum ((s.heap.push { cls:=.type "tuple_iterator",data:=.fields #[.ref l,.int 0 0] }).push
      { cls:=.type "enumerate",data:=.fields #[.none,.bool false,.ref s.heap.objs.size,rawInt 0,.none,.none] }) (s.heap.objs.size + 1) s.heap.objs.size 0 .none:=by
    have:=Heap.get?_push_size (s.heap.push { cls:=.type "tuple_iterator",data:=.fields #[.ref l,.int 0 0] })
      (o:={ cls:=.type "enumerate",data:=.fields #[.none,.bool false,.ref s.heap.objs.size,rawInt 0,.none,.none] }) rfl
    rw [hz] at this; exact this
  refine ⟨⟨_,he,rfl⟩,h _ he ⟨_,Heap.get?_push_of_some _ (Heap.get?_push_size _ rfl),rfl,rfl⟩ (by rw [Heap.size_push,hz]) fun b o x=>Heap.get?_push_of_some _ (Heap.get?_push_of_some _ x)⟩
theorem call_enumG {t : Bool} {l : Addr} {items : Array Value} {Q : Value -> Shared -> Prop} (hL : HasItems t s.heap l items)
    (h : ∀ h',IsEnum h' (s.heap.objs.size + 1) s.heap.objs.size 0 .none -> IterAt t h' s.heap.objs.size l 0 -> h'.objs.size = s.heap.objs.size + 2 ->
      (∀ b o,s.heap.get? b = some o -> h'.get? b = some o) -> Q (.ref (s.heap.objs.size + 1)) { s with heap:=h' }) :
    wpAny (model prog w) A (call (.type "enumerate") [.ref l]) Q E s:=by
  cases t
  · exact call_enumerate_list hL h
  · exact call_enumT hL h
end
def Ite (K : PySem.W.Frag) (t : Bool) (a : Addr) : It:=
  ⟨fun i H=>∃ xs x,SqK K t H a xs /\ xs[i]? = some x,
   fun i H v H'=>∃ p x,H p = none /\ v = .ref p /\ H' = upd H p (.tup [.int i,x]) /\ ∀ xs,SqK K t H a xs -> xs[i]? = some x,
   fun i H=>∃ xs,SqK K t H a xs /\ xs.length <= i⟩
theorem Inv.tracks {X : Cx} {pins : List (Addr × Obj)} {σ : St} {H : Hp} {s s1 : Shared} {p : Addr} {xs : List V} {its : List Value} (I : Inv X pins σ H s) (I1 : Inv X pins σ H s1) (hp : s.heap.objs.size <= p) (hn : H p = none) (rv : Vals xs its) (hz : xs.length <= sizeLine)
    (ht : IsTup s1.heap p its.toArray) : Inv X pins σ (upd H p (.tup xs)) s1:=by
  refine ⟨I1.ok,I1.os,I1.bare,?_,I1.loc,I1.cell,?_,?_,?_,?_,I1.len⟩
  · have u0:=I1.base
    have old : ∀ c o,X.s₀.heap.get? c = some o -> c ≠ p:=fun c o e=>Nat.ne_of_lt (Nat.lt_of_lt_of_le (Heap.lt_size e) (Nat.le_trans I.sz hp))
    exact ⟨u0.keep,u0.slot,fun c o e n hx=>by rw [upd_ne (old c o e)]; exact u0.free c o e n hx,u0.there,
      fun c ts e=>by have:=u0.tups c ts e; rw [upd_ne (ne_of_none this hn)]; exact this,
      fun c o ts e=>by have:=u0.frzs c o ts e; rw [upd_ne (ne_of_none this hn)]; exact this,
      fun c ps e=>by obtain ⟨more,q⟩:=u0.tbls c ps e; exact ⟨more,by rw [upd_ne (ne_of_none q hn)]; exact q⟩⟩
  · rw [upd_ne (Nat.ne_of_lt (Nat.lt_of_lt_of_le I.lt hp))]; exact I.free
  · intro x' c e
    obtain ⟨v',q⟩:=I.cell x' c e
    rw [upd_ne (Nat.ne_of_lt (Nat.lt_of_lt_of_le q.lt hp))]; exact I.freeC x' c e
  · intro p' hp'
    obtain ⟨e,n,ne,nf,d⟩:=I1.pin p' hp'
    have e0:=(I.pin p' hp').1
    exact ⟨e,by rw [upd_ne (Nat.ne_of_lt (Nat.lt_of_lt_of_le (Heap.lt_size e0) hp))]; exact n,ne,nf,d⟩
  · intro c o q
    by_cases hcs : c = p
    · subst hcs
      rw [upd_same] at q; cases q
      exact ⟨hz,its,rv,ht⟩
    · rw [upd_ne hcs] at q
      exact (I1.hok c o q).stay (fun _ _ _ r=>r) (fun c' r=>by rw [upd_ne (ne_of_none r hn)]; exact r) fun c' ts r=>by rw [upd_ne (ne_of_none r hn)]; exact r
def enumSt (t : Bool) (e it a : Addr) (i : Nat) (h : Heap) : Prop:=(∃ old,IsEnum h e it i old) /\ IterAt t h it a i
theorem turn_enum {P : Program} {w : World} {K : PySem.W.Frag} {elts : List Expr} {k : Nat} {pos : Pos} {t : Bool} {e it a : Addr} (hei : e ≠ it) (hae : a ≠ e) (hai : a ≠ it) :
    Turn P w K (.Tuple elts k pos) (Ite K t a) [e,it] e (enumSt t e it a) where
  mem:=by simp
  obj:=fun i h st c hc=>by
    obtain ⟨⟨old,he⟩,h1⟩:=st
    simp at hc
    rcases hc with rfl | rfl
    · exact ⟨_,he,fun v q=>by cases q⟩
    · exact h1.there
  keep:=fun i h h' st kk=>by
    obtain ⟨⟨old,he⟩,h1⟩:=st
    exact ⟨⟨old,kk e (by simp) _ he⟩,h1.at fun o q=>kk it (by simp) o q⟩
  item:=by
    intro X hP hw hK hc i pins s σ H E I hf st hg
    subst hP hw hK
    obtain ⟨xs,x,hq1,hx⟩:=hg
    obtain ⟨⟨old,he⟩,h1⟩:=st
    obtain ⟨its,rv,p,_⟩:=I.seqK hq1
    obtain ⟨ux,hux,rux⟩:=rv.get hx
    have hlt : i < its.toArray.size:=by rw [List.size_toArray]; exact (List.getElem?_eq_some_iff.mp hux).1
    refine wpAny_pyNext_enum_itemD (drawsK (A:=X.A.in1) (I.ok.hd hc) t it a hai its.toArray) he ⟨h1,p⟩ hlt hei (by simp; exact ⟨hei,fun z=>hae z.symm⟩) fun x' h' tk hx' ho hs' hT hsz hk=>⟨_,rfl,?_⟩
    have : x' = ux:=by
      have e1 : its[i]? = some x':=by simpa using hx'
      rw [hux] at e1; exact (Option.some.inj e1).symm
    subst this
    refine wpAny_letOwnedTupleGo_enum (s:={ s with heap:=h',toks:=tk + 1 }) ho fun h'' he' hs''=>?_
    have elt : e < s.heap.objs.size:=Heap.lt_size he
    have ilt : it < s.heap.objs.size:=by obtain ⟨o,q,_⟩:=h1.there; exact Heap.lt_size q
    have hfr : H s.heap.objs.size = none:=I.fresh
    have I1 : Inv X pins σ H { s with heap:=h'',toks:=tk + 1 }:=I.turnedL (its:=[e,it]) (fun c o hc' q=>(hs''.2 c (fun z=>hc' (by simp [z]))).trans (hk c o (fun z=>hc' (by simp [z])) (fun z=>hc' (by simp [z])) q)) fun c hc'=>hf c hc'
    have tupAt : h''.get? s.heap.objs.size = some { cls:=.type "tuple",data:=.seq #[.int i tk,x'] }:=(hs''.2 _ (Nat.ne_of_gt elt)).trans hT
    have I2:=I.tracks (xs:=[.int i,x]) (its:=[.int i tk,x']) I1 (Nat.le_refl _) hfr (.cons ⟨tk,rfl⟩ (.cons rux .nil)) (by simp only [List.length_cons,List.length_nil]; rw [sizeLine_eq]; decide) ⟨_,tupAt,rfl,0,rfl⟩
    refine ⟨.ref s.heap.objs.size,_,I2,rfl,⟨s.heap.objs.size,x,hfr,rfl,rfl,fun xs' q1=>?_⟩,?_,fun c hc'=>?_⟩
    · rw [I.seqK_inj q1 hq1]; exact hx
    · exact ⟨⟨x',by simpa using he'⟩,hs'.1.at fun o q=>hs''.extBut _ _ (Ne.symm hei) q⟩
    · have:=(hf c hc').1
      have clt : c < s.heap.objs.size:=by simp at hc'; rcases hc' with rfl | rfl <;> assumption
      rw [upd_ne (Nat.ne_of_lt clt)]; exact this
  done:=by
    intro X hP hw hK hc i pins s σ H E I hf st hg
    subst hP hw hK
    obtain ⟨xs,hq1,hend⟩:=hg
    obtain ⟨⟨old,he⟩,h1⟩:=st
    obtain ⟨its,rv,p,_⟩:=I.seqK hq1
    have hl:=rv.length
    have hT : s.TypeIs (.ref e) "enumerate" := ⟨_,he,rfl⟩
    unfold pyNext
    refine wpAny_bind (wpAny_attempt (wpAny_callSpecial?_slot (name:=Str.ofString "__next__") hT F.slot_enumerate_next
      (wpAny_call_entry F.slot_enumerate_next hT F.entry_enumerate_next ?_ (F.args_enumerate_next_1 _))))
    show wpAny _ _ (field (.ref e) 2 >>= _) _ _ _
    refine wpAny_bind (wpAny_field he rfl (x:=.ref it) rfl ?_)
    refine wpAny_bind (nextOf_end (I.ok.hd hc) h1 p (by simp; omega) fun h' x he' hx'=>?_)
    obtain ⟨o,ho,hc'⟩:=hx'
    refine wpAny_bind (wpAny_isInstance (T := "StopIteration") (b:=true) ⟨o,ho,hc'⟩ isSubtype_stop ?_)
    exact wpAny_pure ⟨rfl,I.turnedL (t':=s.toks) (its:=[it]) (fun c o hc2 q=>he' c o (fun z=>hc2 (by simp [z])) q) fun c hc2=>hf c (by simp at hc2; simp [hc2])⟩
  self:=fun _ _ _ _ _ st h=>by
    obtain ⟨⟨old,he⟩,_⟩:=st
    exact wpAny_pyIter_enum he h
section
variable {X : Cx}
def iEnum (K : PySem.W.Frag) (t : Bool) (ta : TA) : TI:=fun σ H R=>ta σ H fun vs H1=>∃ a xs,vs = [.ref a] /\ SqK K t H1 a xs /\ R (Ite K t a) H1
theorem boot_enumerate : bootBuiltins "enumerate" = some (.type "enumerate"):=by decide +kernel
theorem pi_enum (t : Bool) {a : Expr} {ta : TA} {p pos : Pos} {elts : List Expr} {k : Nat} {tp : Pos} (hg : Gl X "enumerate") (hm : X.mg "enumerate" = none) (ha : PA X [a] ta) (hs : starEach [a] X.env = [(false,eval a X.env)]:=by rfl) :
    PI X (.Tuple elts k tp) (.Call (.Name "enumerate" p) [a] [] pos) (iEnum X.K t ta):=by
  intro pins s σ H R I h
  refine Call_ (ld_blt I hg hm boot_enumerate (PyProof.Rows.callWith_type1 (thn (ha pos pins s σ H _ I h) fun us s1 ⟨vs,H1,I1,r1,q1⟩=>?_) hs rfl))
  obtain ⟨a',xs,e,q1,q⟩:=q1
  subst e
  obtain ⟨u,rfl,r⟩:=vals1 r1
  cases r
  obtain ⟨its,rv,p1,_⟩:=I1.seqK q1
  refine call_enumG p1 fun h' z1 z2 z3 z4=>?_
  refine wpAny_pyIter_enum (s:={ s1 with heap:=h' }) z1 ?_
  have lta : a' < s1.heap.objs.size:=by obtain ⟨o,e⟩:=p1.there; exact Heap.lt_size e
  refine ⟨_,[s1.heap.objs.size + 1,s1.heap.objs.size],_,_,H1,rfl,I1.kept (t':=s1.toks) z4,turn_enum (t:=t) (Nat.ne_of_gt (Nat.lt_succ_self _)) (Nat.ne_of_lt (Nat.lt_succ_of_lt lta)) (Nat.ne_of_lt lta),⟨⟨_,z1⟩,z2⟩,fun c hc=>?_,q⟩
  have hc' : s1.heap.objs.size <= c:=by simp at hc; unfold Addr at *; omega
  exact I1.fpOk hc' (I1.hok.fresh hc')
end
end L2
namespace L2
open PySem PySem.Spec PyProof.Rows
def TSame (H H' : Hp) : Prop:=∀ b xs,H b = some (.tup xs) -> H' b = some (.tup xs)
theorem same_new {H : Hp} {a : Addr} {o : HO} (h : H a = none) : Same H (upd H a o):=fun b u e=>by rw [upd_ne (ne_of_none e h)]; exact e
section
variable {K : PySem.W.Frag} {cap : List (Option Nat)} {te : TE} {σ : St} {H1 : Hp} {Q : VK}
abbrev g2 (K : PySem.W.Frag) : TG:=gTup K 2 (gCons (gName 0) (gCons (gName 1) gNil))
end
def clsV : V -> Option Value
  | .ty n=>some (.type n)
  | .ref a=>some (.ref a)
  | _=>none
theorem clsV_rel {c : V} {cv u : Value} (e : clsV c = some cv) (r : RelV c u) : u = cv:=by
  cases c with
  | ty n=>cases e; exact r
  | ref a=>cases e; exact r
  | _=>cases e
section
variable {X : Cx}
theorem call_isinst : CallR X (.builtin "isinstance") (fun xs H Q=>∃ x c cv t b,xs = [x,c] /\ clsV c = some cv /\ TyOf X.K H x t /\ PySem.W.kitOne X.K t cv = some b /\ Q (.bl b) H):=by
  intro pins s σ H xs us Q I r h
  obtain ⟨x,c,cv,t,b,rfl,hc,ty,e,q⟩:=h
  obtain ⟨u,w',rfl,r1,r2⟩:=vals2 r
  rw [clsV_rel hc r2]
  exact isinst_ok I r1 ty e fun tk=>⟨.bl b,H,I.tok tk,rfl,q⟩
theorem boot_isinstance : bootBuiltins "isinstance" = some (.builtin "isinstance"):=by decide +kernel
theorem boot_sum : bootBuiltins "sum" = some (.builtin "sum"):=by decide +kernel
theorem boot_all : bootBuiltins "all" = some (.builtin "all"):=by decide +kernel
theorem boot_any : bootBuiltins "any" = some (.builtin "any"):=by decide +kernel
theorem boot_max : bootBuiltins "max" = some (.builtin "max"):=by decide +kernel
theorem boot_min : bootBuiltins "min" = some (.builtin "min"):=by decide +kernel
theorem boot_tuple : bootBuiltins "tuple" = some (.type "tuple"):=by decide +kernel
theorem boot_list : bootBuiltins "list" = some (.type "list"):=by decide +kernel
theorem boot_int : bootBuiltins "int" = some (.type "int"):=by decide +kernel
theorem boot_bool : bootBuiltins "bool" = some (.type "bool"):=by decide +kernel
end
section
variable {X : Cx} (K : PySem.W.Frag)
end
def Tab (H : Hp) (a : Addr) (tb : List (List Int)) : Prop:=∃ rs : List Addr,H a = some (.tup (rs.map V.ref)) /\ Paired (fun r row=>H r = some (.tup (List.map V.int row))) rs tb
def Wf (n : Nat) (tb : List (List Int)) : Prop:=tb.length = n /\ ∀ row ∈ tb,row.length = n + 1 /\ ∀ x ∈ row,(0 : Int) <= x
def Sz (n : Nat) (tb : List (List Int)) : Prop:=tb.length = n /\ ∀ row ∈ tb,row.length = n + 1
end L2
namespace L2
open PySem PySem.Spec PyProof.Rows PySem.W PySem.Builtin.Getset_descriptor
structure XCls (K : Frag) (C : Addr) : Prop where
  cls : (clsIn K C).isSome = true
  ga : findIn K (.ref C) "__getattribute__" = some (some (.builtin "BaseException.__getattribute__"))
  gt : findIn K (.ref C) "__getattr__" = some none
  cl : findIn K (.ref C) "__class__" = some (some (.builtin "object.__class__"))
  gs : specialIn K (.builtin "object.__class__") "__get__" = some (some (.builtin "getset_descriptor.__get__"))
  tk : takesIn K (.builtin "object.__class__") = some true
  ob : mroIn K C (.type "object") = some true
  be : mroIn K C (.type "BaseException") = some true
def IsX (x C : Addr) (h : Heap) : Prop:=∃ ox,h.get? x = some ox /\ ox.cls = .ref C
theorem IsX.type {M : Model} {h : Heap} {x C : Addr} (I : IsX x C h) : Looks M h (typeOf (.ref x)) (.ref C):=by
  obtain ⟨ox,h1,h2⟩:=I
  exact h2 ▸ (Looks.ld h1).andThen .now
theorem xc_find {K : Frag} {M : Model} {h : Heap} {x C : Addr} (X : K.In h) (F : XCls K C) : Looks M h (Builtin.ObjectAttr.find (.ref x) (.ref C) "__class__") (.bind (.builtin "getset_descriptor.__get__") (.builtin "object.__class__")):=by
  have L1:=looks_findIn (M:=M) X F.cl
  have L2 : Looks M h (Builtin.ObjectAttr.getOf (some (.builtin "object.__class__"))) (some (.builtin "getset_descriptor.__get__")):=looks_specialIn X F.gs
  have L3 : Looks M h (Builtin.ObjectAttr.dataDescriptor? (some (.builtin "object.__class__")) (some (.builtin "getset_descriptor.__get__"))) (some (.builtin "getset_descriptor.__get__",.builtin "object.__class__")):=(looks_takesIn X F.tk).andThen .now
  exact L1.andThen (L2.andThen (L3.andThen (Looks.tag .now)))
section
variable {prog : Program} {w : World} {A : Around} {E : Value -> Shared -> Prop} {h : Heap} {g : Array GenState} {d : Drawn} {t : Nat} {os : OsState} {K : Frag} {x C : Addr}
theorem xc_get {tp : Value} {R : Result -> Shared -> Prop} (X : K.In h) (F : XCls K C) (I : IsX x C h) (hq : R (.ok (.ret (.ref C))) ⟨h,g,d,t,os⟩) : codeAny (model prog w) A (.call (.builtin "getset_descriptor.__get__") ⟨[.builtin "object.__class__",.ref x,tp],[]⟩) R ⟨h,g,d,t,os⟩:=by
  have L0:=I.type (M:=model prog w)
  have L1:=looks_mroIn (M:=model prog w) X F.ob
  refine codeAny_call_builtin KF.slot_gs.plain KF.entry_gs (KF.slot_gs.check _ _ _ _ _ _ _ _ KF.type_class (KF.args_gs _ _ _) ?_)
  unfold Builtin.«getset_descriptor.__get__» descrGet
  rw [dga_obj]
  refine wpAny_bind (wpAny_pure ?_)
  unfold descrGetter descrCheckInstance descrNameAndClass isInstance
  simp only [KF.owner_class]
  repeat lk
  refine ⟨Code.quiet_builtin _ (by decide +kernel),codeAny_builtin KF.entry_class ?_⟩
  unfold Builtin.«object.__class__» shownTypeOf
  repeat lk
  exact hq
theorem xc_entry {tk : Tok} {Q : Fin -> Shared -> Prop} (X : K.In h) (F : XCls K C) (I : IsX x C h) (hq : Q (.done (.ret (.ref C))) ⟨h,g,d,t,os⟩) :
    wpAny (model prog w) A (Builtin.«object.__getattribute__» ⟨[.ref x,.str "__class__" tk],[]⟩) Q E ⟨h,g,d,t,os⟩:=by
  have L0:=I.type (M:=model prog w)
  have L1:=xc_find (M:=model prog w) (x:=x) X F
  unfold Builtin.«object.__getattribute__»
  refine wpAny_bind (wpAny_pure ?_)
  refine wpAny_bind (wpAny_pure ?_)
  refine wpAny_bind (L0.at (wpAny_bind (L1.at ?_)))
  show wpAny _ _ (Builtin.ObjectAttr.bindTo (.builtin "getset_descriptor.__get__") (.builtin "object.__class__") (.ref x) (.ref C)) _ _ _
  unfold Builtin.ObjectAttr.bindTo
  refine wpAny_bind (wpAny_holding (wpAny_call (xc_get X F I ?_)))
  exact wpAny_pure hq
theorem xc_check {M : Model} {nameV : Value} {Q : Unit -> Shared -> Prop} (X : K.In h) (F : XCls K C) (I : IsX x C h) (hq : Q () ⟨h,g,d,t,os⟩) : wpAny M A (checkBuiltinCall "BaseException.__getattribute__" ⟨[.ref x,nameV],[]⟩) Q E ⟨h,g,d,t,os⟩:=by
  have hk : builtinKind "BaseException.__getattribute__" = some .slot:=by decide +kernel
  have hsplit : splitId "BaseException.__getattribute__" = some ("BaseException", "__getattribute__"):=by decide +kernel
  have LI : Looks M h (isInstance (.ref x) (.type "BaseException")) true:=(I.type).andThen (looks_mroIn X F.be)
  have ha:=PySem.F.args_bexc_ga (.ref x) nameV
  simp only [checkBuiltinCall,hk,hsplit]
  refine wpAny_bind (LI.at ?_)
  simp only [Bool.not_true,Bool.false_eq_true,if_false]
  exact wpAny_of_eq ha hq
theorem xc_call {tk : Tok} {R : Result -> Shared -> Prop} (X : K.In h) (F : XCls K C) (I : IsX x C h) (hq : R (.ok (.ret (.ref C))) ⟨h,g,d,t,os⟩) :
    codeAny (model prog w) A (.call (.builtin "BaseException.__getattribute__") ⟨[.ref x,.str "__class__" tk],[]⟩) R ⟨h,g,d,t,os⟩:=
  codeAny_call_builtin PySem.F.attr_ValueError.ga.plain PySem.F.entry_bexc_ga (xc_check X F I (xc_entry X F I hq))
theorem xc_by {tk : Tok} {Q : Value -> Shared -> Prop} (X : K.In h) (F : XCls K C) (I : IsX x C h) (hq : Q (.ref C) ⟨h,g,d,t,os⟩) : wpAny (model prog w) A (getAttrBy (.ref x) (.str "__class__" tk) false) Q E ⟨h,g,d,t,os⟩:=by
  have L0:=I.type (M:=model prog w)
  have L1:=looks_findIn (M:=model prog w) X F.ga
  have L2:=looks_findIn (M:=model prog w) X F.gt
  have hx2 : (Value.builtin "BaseException.__getattribute__" == Value.builtin "object.__getattribute__") = false:=by decide +kernel
  have hx1 : (onTheHeap (Value.ref C) && Value.builtin "BaseException.__getattribute__" == Value.builtin "object.__getattribute__") = false:=by rw [hx2]; rfl
  have f3:=PySem.F.attr_ValueError.ga.bind (.ref x)
  unfold getAttrBy
  refine wpAny_holding (wpAny_bind (L0.at (wpAny_bind (L1.at ?_))))
  repeat (any_goals (first | assumption | with_reducible refine L2.at ?_ | wp_step))
  refine xc_call X F I ?_
  repeat (any_goals (first | assumption | wp_step))
theorem xc_attr {Q : Option Value -> Shared -> Prop} (X : K.In h) (F : XCls K C) (I : IsX x C h) (hq : Q (some (.ref C)) ⟨h,g,d,t + 1,os⟩) : wpAny (model prog w) A (getAttr? (.ref x) "__class__") Q E ⟨h,g,d,t,os⟩:=by
  unfold getAttr? getAttrBy?
  repeat (any_goals (first | assumption | with_reducible apply xc_by X F I | wp_step))
end
theorem kitx_exc {K : Frag} {x C : Addr} (F : XCls K C) : KitX K (.ref x) (.ref C) (IsX x C) where
  ty:=fun _ _ _ I=>I.type
  it:=fun _ _ X _=>by
    obtain ⟨cdD,hcD⟩:=Option.isSome_iff_exists.mp F.cls
    unfold clsIn at hcD
    split at hcD
    · rename_i c' d' cd' sl' ho
      intro A' Q' E' s' k q
      unfold isType loadHead
      exact wpAny_bind (wpAny_loadPart (k _ _ (X _ _ ho)) (wpAny_pure q))
    · cases hcD
  ne:=fun h tp dd its n sl X htp=>by
    obtain ⟨cdD,hcD⟩:=Option.isSome_iff_exists.mp F.cls
    refine Bool.eq_false_iff.mpr fun q=>?_
    have e : C = tp:=Value.ref.inj (beq_iff_eq.mp q)
    subst e
    unfold clsIn at hcD
    split at hcD
    · rename_i c' d' cd' sl' ho
      have z:=(X _ _ ho).symm.trans htp
      cases z
    · cases hcD
  ca:=fun {prog w A E Q s} X I k=>by
    obtain ⟨h,g,d,t,os⟩:=s
    exact xc_attr X F I k
end L2
namespace L2
open PySem PySem.Spec PyProof.Rows
theorem ObjOk.there {P : Program} {w : World} {H : Hp} {h : Heap} {a : Addr} {o : HO} (x : ObjOk P w H h a o) : ∃ u,h.get? a = some u:=by
  cases o with
  | lst xs=>obtain ⟨_,_,_,_,e⟩:=x; exact ⟨_,e⟩
  | tup xs=>obtain ⟨_,_,_,o,e,_⟩:=x; exact ⟨o,e⟩
  | dK kvs=>obtain ⟨_,_,_,_,o,_,_,e,_⟩:=x; exact ⟨o,e⟩
  | dT kvs=>obtain ⟨_,_,_,_,o,_,_,e,_⟩:=x; exact ⟨o,e⟩
  | set S n=>obtain ⟨o,_,_,_,e,_⟩:=x; exact ⟨o,e⟩
  | ins C dx fs=>obtain ⟨_,_,_,e,_⟩:=x; exact ⟨_,e⟩
  | own y=>exact x
  | xd fs=>obtain ⟨_,⟨o,_,_,e,_⟩,_⟩:=x; exact ⟨o,e⟩
  | rng lo hi=>obtain ⟨_,_,_,e⟩:=x; exact ⟨_,e⟩
  | frz ob u=>obtain ⟨e,_⟩:=x; exact ⟨_,e⟩
  | tbl ps=>exact ⟨_,x⟩
  | met f y=>exact ⟨_,x⟩
  | ext φ=>exact x.2.1
theorem HOk.none_of {P : Program} {w : World} {H : Hp} {h : Heap} {a : Addr} (x : HOk P w H h) (e : h.get? a = none) : H a = none:=by
  cases q : H a with
  | none=>rfl
  | some o=>
    obtain ⟨u,z⟩:=(x a o q).there
    rw [e] at z
    cases z
structure Fly (P : Program) (w : World) (outer : List Env) (H H' : Hp) (s s' : Shared) (a : Addr) (cls a0 : Value) (B : Heap) : Prop where
  os : s'.os = s.os
  bare : AllBare s'.gens
  fl : Heap.FlyingW B outer a cls a0 s'.heap
  hokB : HOk P w H' B
  keep : ∀ b o,s.heap.get? b = some o -> H b = none -> b ∉ frs outer -> B.get? b = some o
  there : ∀ b o,s.heap.get? b = some o -> b ∉ frs outer -> ∃ o',B.get? b = some o'
  slot : ∀ b o,s.heap.get? b = some o -> b ∈ frs outer -> ∃ sl,s'.heap.get? b = some { o with slots:=sl }
  free : ∀ b o,s.heap.get? b = some o -> H b = none -> H' b = none
  tups : ∀ b xs,H b = some (.tup xs) -> H' b = some (.tup xs)
  frzs : ∀ b o u,H b = some (.frz o u) -> H' b = some (.frz o u)
  tbls : ∀ b ps,H b = some (.tbl ps) -> ∃ more,H' b = some (.tbl (ps ++ more))
section
variable {P : Program} {w : World} {K : PySem.W.Frag} {mg : Str -> Option Value} {base : Heap} {N : List Str} {qual : Str} {scope : Scope} {f : Addr} {cd : Value} {A : Around} {outer : List Env} {s : Shared} {H : Hp} {E : XK}
end
abbrev bmVE : List Value:=[.type "ValueError",.type "Exception",.type "BaseException",.type "object"]
theorem own_obj {K : PySem.W.Frag} {h : Heap} {C : Addr} {bmB : List Value} {newId : String} {x : Str} {mg : Str -> Option Value} (X : K.In h) (m : mg x = some (.ref C)) (q : PySem.W.excIn K C bmB newId = true) : OwnCls x C bmB newId mg h:=by
  refine ⟨m,?_⟩
  unfold PySem.W.excIn at q
  split at q
  · rename_i dd cd sl ho
    split at q
    · rename_i C' bm k0 k1 k2 k3 n k5 hm hs
      simp only [Bool.and_eq_true,beq_iff_eq,Bool.not_eq_true'] at q
      obtain ⟨⟨⟨⟨⟨rfl,rfl⟩,hdel⟩,ht⟩,hok⟩,hni⟩:=q
      obtain ⟨nm,bs,mro,ns,qn,hd,sn,sub,ab,col,del⟩:=cd
      dsimp only at hm hdel hok hni
      subst hm hdel
      have hsl : sl = #[k0,k1,k2,k3,some (.builtin n),k5]:=by
        obtain ⟨l⟩:=sl
        simp only at hs
        rw [hs]
      subst hsl
      exact ⟨bm,ns,nm,qn,bs,hd,sn,sub,ab,col,dd,k0,k1,k2,k3,k5,_,X _ _ ho,.of_isNs (PySem.W.isNs_of_in X hok),PySem.W.nsMap_none_of_in X hok hni,PySem.W.tail_of_in X ht⟩
    · cases q
  · cases q
section
variable {X : Cx}
def tRaise (C : Addr) (E : XK) (t : TA) : TS:=fun _ σ H=>t σ H fun vs H1=>vs.length <= sizeLine /\ E (.ref C) none H1
end
end L2
namespace L2
open PySem PySem.Spec PyProof.Rows
def suiteCx (X : Cx) (a : Addr) : Cx:={ X with A:=X.A.mark (some (.ref a)),calm:=false,xe:=fun _ _=>False }
section
variable {X : Cx} {pins : List (Addr × Obj)} {σ : St} {H H' : Hp} {s s' : Shared} {a C : Addr}
theorem Inv.suite (I : Inv X pins σ H s) (a : Addr) : Inv (suiteCx X a) pins σ H s:=
  ⟨⟨I.ok.mod,I.ok.kind,I.ok.glob,I.ok.blt,I.ok.above,I.ok.inj,I.ok.has,I.ok.cab,fun h=>(by cases h),I.ok.frames,I.ok.stk,I.ok.exf,I.ok.bs,I.ok.bsz,I.ok.noex,I.ok.exfs,I.ok.funs,I.ok.frf⟩,I.os,I.bare,I.base,I.loc,I.cell,I.free,I.freeC,I.pin,I.hok,I.len⟩
theorem Inv.unsuite (ok : X.Ok) (I : Inv (suiteCx X a) pins σ H s) : Inv X pins σ H s:=⟨ok,I.os,I.bare,I.base,I.loc,I.cell,I.free,I.freeC,I.pin,I.hok,I.len⟩
theorem Fly.inv {cls a0 : Value} {B h5 : Heap} (I : Inv X pins σ H s) (F : Fly X.prog X.w X.stack H H' s s' a cls a0 B) (kB : B.StaysIn h5) (sm : s'.heap.UpToSlots h5) : Inv X pins σ H' { s' with heap:=h5 }:=by
  have sl : ∀ b o,s.heap.get? b = some o -> b ∈ frs X.stack -> ∃ sl,h5.get? b = some { o with slots:=sl }:=fun b o q hb=>by
    obtain ⟨sl,z⟩:=F.slot b o q hb
    obtain ⟨_,o',ho',hnf⟩:=I.stack.mem hb
    rw [q] at ho'
    cases ho'
    obtain ⟨sl',z'⟩:=sm b _ z hnf
    exact ⟨sl',z'⟩
  refine I.call' (s':={ s' with heap:=h5 }) (ch:=[]) F.os ⟨fun b o q n hb _=>kB _ _ (F.keep b o q n hb),fun b o q n hb _=>sl b o q hb,fun b o q n _=>F.free b o q n,fun b o q _=>?_,F.tups,F.frzs,F.tbls⟩ (F.hokB.kept kB) F.bare fun b z=>absurd z (by simp)
  by_cases hb : b ∈ frs X.stack
  · obtain ⟨sl,z⟩:=sl b o q hb
    exact ⟨_,z⟩
  · obtain ⟨o',z⟩:=F.there b o q hb
    exact ⟨o',kB _ _ z⟩
theorem Fly.new {cls a0 : Value} {B : Heap} (F : Fly X.prog X.w X.stack H H' s s' a cls a0 B) : s.heap.get? a = none /\ H' a = none:=by
  have hB : B.get? a = none:=F.fl.2.1
  refine ⟨?_,F.hokB.none_of hB⟩
  cases q : s.heap.get? a with
  | none=>rfl
  | some o=>
    by_cases hb : a ∈ frs X.stack
    · obtain ⟨_,o',ho',hnf⟩:=F.fl.2.2.1.mem hb
      obtain ⟨oe,vs,he,_,hd,_⟩:=F.fl.first
      rw [ho'] at he
      cases he
      exact absurd hd (hnf vs)
    · obtain ⟨o',z⟩:=F.there a o q hb
      rw [hB] at z
      cases z
theorem Inv.track {s1 : Shared} {φ : Heap -> Prop} (I0 : Inv X pins σ H s) (hex : ∀ b,b ∉ X.ex) (h0 : s.heap.get? a = none) (I : Inv X pins σ H' s1) (hn : H' a = none) (o : ObjOk X.prog X.w (upd H' a (.ext φ)) s1.heap a (.ext φ)) : Inv X pins σ (upd H' a (.ext φ)) s1:=by
  have ne0 : ∀ b u,s.heap.get? b = some u -> b ≠ a:=fun b u e z=>by rw [z,h0] at e; cases e
  have nes : ∀ b u,X.s₀.heap.get? b = some u -> b ≠ a:=fun b u e=>by
    obtain ⟨u',e'⟩:=I0.base.there b u e (hex b)
    exact ne0 b u' e'
  refine ⟨I.ok,I.os,I.bare,?_,I.loc,I.cell,?_,?_,?_,?_,I.len⟩
  · have u0:=I.base
    exact ⟨u0.keep,u0.slot,fun c o e n hx=>by rw [upd_ne (nes c o e)]; exact u0.free c o e n hx,u0.there,
      fun c ts e=>by have:=u0.tups c ts e; rw [upd_ne (ne_of_none this hn)]; exact this,
      fun c o ts e=>by have:=u0.frzs c o ts e; rw [upd_ne (ne_of_none this hn)]; exact this,
      fun c ps e=>by obtain ⟨more,q⟩:=u0.tbls c ps e; exact ⟨more,by rw [upd_ne (ne_of_none q hn)]; exact q⟩⟩
  · obtain ⟨m,⟨o,_,_,e,_⟩,_⟩:=I0.loc
    rw [upd_ne (ne0 _ _ e)]; exact I.free
  · intro x c e
    obtain ⟨v,o,z,_⟩:=I0.cell x c e
    rw [upd_ne (ne0 _ _ z)]; exact I.freeC x c e
  · intro p hp
    obtain ⟨e,n,ne,nf,d⟩:=I.pin p hp
    exact ⟨e,by rw [upd_ne (ne0 _ _ (I0.pin p hp).1)]; exact n,ne,nf,d⟩
  · intro c u q
    by_cases hc : c = a
    · subst hc
      rw [upd_same] at q; cases q
      exact o
    · rw [upd_ne hc] at q
      exact (I.hok c u q).stay (fun _ _ _ r=>r) (fun c' r=>by rw [upd_ne (ne_of_none r hn)]; exact r) fun c' ts r=>by rw [upd_ne (ne_of_none r hn)]; exact r
theorem Inv.forget {i : Nat} {n : Str} {m : Str -> Option Value} {h' : Heap} {v : Option Value} {tk : Nat} (I : Inv X pins σ H s) (hN : X.N.Nodup) (hi : X.N[i]? = some n) (hl : ∀ (i : Nat) (x : Str) (v : V),X.N[i]? = some x -> σ[i]? = some (some v) -> Vis X.env.scope x -> ∃ u,RelV v u /\ Look X.env s.heap m x u)
    (hn' : h'.Ns X.env.locals (fun x=>if x = n then v else m x)) (hs : Heap.SameBut X.env.locals s.heap h') : Inv X pins (σ.set i none) H { s with heap:=h',toks:=tk }:=by
  have cne:=I.cne
  have tracked : HOk X.prog X.w H h':=I.hok.same I.free hs
  have neL : ∀ b o,X.s₀.heap.get? b = some o -> b ≠ X.env.locals:=fun b o e=>Nat.ne_of_lt (Nat.lt_of_lt_of_le (Heap.lt_size e) I.ok.above)
  refine ⟨I.ok,I.os,I.bare,⟨fun b o e n hb hx=>(hs.2 b (neL b o e)).trans (I.base.keep b o e n hb hx),fun b o e n hb hx=>?_,I.base.free,fun b o e hx=>?_,I.base.tups,I.base.frzs,I.base.tbls⟩,⟨_,hn',fun j y v' e1 e2 e3=>?_⟩,fun y c e=>?_,I.free,I.freeC,fun p hp=>?_,tracked,by simpa using I.len⟩
  · obtain ⟨sl,z⟩:=I.base.slot b o e n hb hx
    exact ⟨sl,(hs.2 b (neL b o e)).trans z⟩
  · obtain ⟨o',z⟩:=I.base.there b o e hx
    exact ⟨o',(hs.2 b (neL b o e)).trans z⟩
  · by_cases hj : j = i
    · subst hj
      rw [hi] at e1; cases e1
      have : j < σ.length:=by have:=(List.getElem?_eq_some_iff.mp e2).1; simpa using this
      rw [List.getElem?_set_self this] at e2
      cases e2
    · rw [List.getElem?_set_ne (Ne.symm hj)] at e2
      obtain ⟨u,r,q⟩:=hl j y v' e1 e2 e3
      refine ⟨u,r,?_⟩
      rcases q with ⟨k,e⟩ | ⟨k,c,e,z⟩
      · refine .inl ⟨k,?_⟩
        have : y ≠ n:=fun e=>hj (nodup_ix hN e1 (e ▸ hi))
        simp [this,e]
      · exact .inr ⟨k,c,e,z.sameBut hs (cne y c e)⟩
  · obtain ⟨w',z⟩:=I.cell y c e
    exact ⟨w',z.sameBut hs (cne y c e)⟩
  · obtain ⟨e,n,ne,nf,d⟩:=I.pin p hp
    exact ⟨(hs.2 p.1 ne).trans e,n,ne,nf,d⟩
end
section
variable {X : Cx}
end
section
variable {X : Cx}
end
end L2
namespace L2
open PySem PySem.Spec PyProof.Rows
theorem tuple_mul_same (l : Addr) (items : Array Value) (n : Nat) (dd : Option Addr) (sl : Array (Option Value)) (t : Tok) :
    Meets (Builtin.«tuple.__mul__» ⟨[.ref l,.int 1 t],[]⟩) (fun _ R s=>s.heap.get? l = some { cls:=.type "tuple",dict:=dd,data:=.seq items n,slots:=sl } /\ R (.ok (.ret (.ref l))) s):=
  .of_wp fun prog w A R s h=>by
    obtain ⟨hp,g,d,tk,os⟩:=s; obtain ⟨hl,h⟩:=h
    wp_walk using wpAny_loadPart' hl
    exact ⟨_,rfl,h⟩
theorem tuple_mul_many (l : Addr) (items : Array Value) (n : Nat) (dd : Option Addr) (sl : Array (Option Value)) (x : Int) (t : Tok) (h1 : ¬ (decide (x < -(2 ^ 63)) || decide (x >= 2 ^ 63)) = true) (h2 : ¬ (items.isEmpty || x == 1) = true) (h3 : ¬ (decide (x <= 0) || items.isEmpty) = true) (h4 : ¬ (items.size : Int) * x > (2 ^ 63 - 1) / 8) (h5 : ¬ Builtin.Tuple.tupleTooMany ((items.size : Int) * x) = true)
    (h6 : ((List.replicate x.toNat items).foldl (fun x1 x2=>x1 ++ x2) #[]).size <= sizeLine) :
    Meets (Builtin.«tuple.__mul__» ⟨[.ref l,.int x t],[]⟩) (fun _ R s=>s.heap.get? l = some { cls:=.type "tuple",dict:=dd,data:=.seq items n,slots:=sl } /\
      R (.ok (.ret (Value.ref s.heap.objs.size))) { s with heap:=s.heap.push { cls:=Value.type "tuple",data:=Data.seq ((List.replicate x.toNat items).foldl (fun x1 x2=>x1 ++ x2) #[]) } }):=
  .of_wp fun prog w A R s h=>by
    obtain ⟨hp,g,d,tk,os⟩:=s; obtain ⟨hl,h⟩:=h
    wp_walk using wpAny_loadPart' hl
    refine wpAny_ite_false (decide_eq_false h1) ?_
    wp_walk using wpAny_loadPart' hl
    refine wpAny_ite_false (decide_eq_false h4) ?_
    wp_walk using wpAny_loadPart' hl
    all_goals first | exact ⟨_,rfl,h⟩ | (refine wpAny_ite_false (decide_eq_false h5) ?_; wp_walk) | skip
    all_goals first | exact ⟨_,rfl,h⟩ | (refine wpAny_ite_false (decide_eq_false (Nat.not_lt.mpr h6)) ?_; wp_walk; exact ⟨_,rfl,h⟩)
theorem int_rmul_tuple (a : Int) (t : Tok) (l : Addr) (items : Array Value) (n : Nat) (dd : Option Addr) (sl : Array (Option Value)) :
    Meets (Builtin.«int.__rmul__» ⟨[.int a t,.ref l],[]⟩) (fun _ R s=>s.heap.get? l = some { cls:=.type "tuple",dict:=dd,data:=.seq items n,slots:=sl } /\ R (.ok (.ret Value.notImplemented)) s):=
  .of_wp fun prog w A R s h=>by obtain ⟨hp,g,d,tk,os⟩:=s; obtain ⟨hl,h⟩:=h; wp_walk using wpAny_loadPart' hl; exact ⟨_,rfl,h⟩
theorem noFill_tuple_mul : fillsNumberSlot (.type "tuple") "mul" = pure false:=
  PySem.fillsNumberSlot_seq (id := "tuple.__mul__") (r:=some (.builtin "tuple.__rmul__")) F.slot_tuple_mul.lookup (by decide +kernel) F.slot_tuple_rmul.lookup (by decide +kernel)
theorem repeat_tuple : seqRepeat? (.type "tuple") = pure (some (.builtin "tuple.__mul__")):=by
  unfold seqRepeat?
  rw [PySem.seqSlot_of (T := "tuple") (name := "__mul__") (id := "tuple.__mul__") F.slot_tuple_mul.lookup (by decide +kernel),PySem.seqSlot_of (T := "tuple") (name := "__rmul__") (id := "tuple.__rmul__") F.slot_tuple_rmul.lookup (by decide +kernel)]
  rfl
section
variable {X : Cx}
def rRepT (K : PySem.W.Frag) : R2:=fun x y H Q=>∃ a k xs,x = .ref a /\ y = .int k /\ SqT K H a xs /\ xs ≠ [] /\ 1 <= k /\ xs.length * k.toNat <= 4096 /\
  (k = 1 -> Q (.ref a) H) /\ (k ≠ 1 -> ∀ p,H p = none -> Q (.ref p) (upd H p (.tup (List.replicate k.toNat xs).flatten)))
theorem op_repT : OpR X (binaryOp .Mult) (rRepT X.K):=by
  intro pins s σ H x y v u Q I rx ry h
  obtain ⟨a,k,xs,rfl,rfl,ha,hne,hk,hz,q1,q2⟩:=h
  cases rx
  obtain ⟨t,rfl⟩:=ry
  obtain ⟨its,r,p1,hs⟩:=I.tuple ha
  obtain ⟨⟨cls,dd,data,sl⟩,ho,hc,n,hd⟩:=id p1
  simp only at hc hd
  subst hc hd
  have hl : its.length = xs.length:=r.length.symm
  have hpos : 0 < its.length:=by rw [hl]; exact List.length_pos_iff.mpr hne
  have hkz : k.toNat <= 4096:=by
    have : 1 * k.toNat <= xs.length * k.toNat:=Nat.mul_le_mul_right _ (by omega)
    omega
  refine wpAny_binaryOp_repeat_ref (T := "tuple") (U := "int") (by decide) ⟨_,ho,rfl⟩ (fun s'=>typeIs_int s' k t) noFill_tuple_mul F.fills_int_mul F.slot_int_rmul repeat_tuple F.slot_int_index.lookup
    (call_meets F.slot_int_rmul (typeIs_int s k t) F.entry_int_rmul (F.args_int_rmul_2 _ _) (int_rmul_tuple k t a its.toArray n dd sl)
      ⟨ho,rfl,⟨_,ho,rfl⟩,?_⟩)
  by_cases h1 : k = 1
  · subst h1
    exact call_meets F.slot_tuple_mul ⟨_,ho,rfl⟩ F.entry_tuple_mul (F.args_tuple_mul_2 _ _) (tuple_mul_same a its.toArray n dd sl t) ⟨ho,⟨.ref a,H,I,rfl,q1 rfl⟩⟩
  · have f0 : List.foldl (fun x1 x2=>x1 ++ x2) #[] (List.replicate k.toNat its.toArray) = (List.replicate k.toNat its).flatten.toArray:=by
      have:=foldl_rep its k.toNat []
      rw [List.nil_append] at this
      exact this
    have hlen : (its.toArray.size : Int) * k = ((its.length * k.toNat : Nat) : Int):=by
      rw [List.size_toArray,Int.natCast_mul,Int.toNat_of_nonneg (by omega)]
    have hfl : (List.replicate k.toNat its).flatten.length <= 4096:=by rw [len_rep,hl,Nat.mul_comm]; exact hz
    have hb : its.length * k.toNat <= 4096:=by rw [hl]; exact hz
    refine call_meets F.slot_tuple_mul ⟨_,ho,rfl⟩ F.entry_tuple_mul (F.args_tuple_mul_2 _ _) (tuple_mul_many a its.toArray n dd sl k t ?_ ?_ ?_ ?_ ?_ ?_) ⟨ho,?_⟩
    · rw [decide_eq_false (by omega),decide_eq_false (by omega)]; exact Bool.false_ne_true
    · intro z
      rcases Bool.or_eq_true_iff.mp z with z | z
      · rw [List.isEmpty_toArray,List.isEmpty_iff] at z; rw [z] at hpos; simp at hpos
      · exact h1 (eq_of_beq z)
    · intro z
      rcases Bool.or_eq_true_iff.mp z with z | z
      · have:=of_decide_eq_true z; omega
      · rw [List.isEmpty_toArray,List.isEmpty_iff] at z; rw [z] at hpos; simp at hpos
    · rw [hlen]; omega
    · rw [hlen]
      have : (4096 : Int) <= sizeLine:=by decide
      show ¬ decide (((its.length * k.toNat : Nat) : Int) > (sizeLine : Int)) = true
      rw [decide_eq_false (by omega)]; exact Bool.false_ne_true
    · rw [f0,List.size_toArray]; exact Nat.le_trans hfl (by decide)
    · rw [f0]
      refine ⟨.ref s.heap.objs.size,_,I.laid (t':=s.toks) (o:=.tup (List.replicate k.toNat xs).flatten) (fun b ob q=>Heap.get?_push_of_some _ q) (Nat.le_refl _) ?_,rfl,q2 h1 _ (I.hok.fresh (Nat.le_refl _))⟩
      exact ⟨by rw [len_rep,Nat.mul_comm]; exact Nat.le_trans hz (by decide),_,r.rep k.toNat,IsTup.new _ _⟩
end
section
variable {X : Cx} {pins : List (Addr × Obj)} {s : Shared} {σ : St} {H : Hp}
open PySem.SeqAt
theorem op_isnot_bl : OpR X (compareOp .IsNot) (fun x y H Q=>∃ b c,x = .bl b /\ y = .bl c /\ Q (.bl (b != c)) H):=by
  intro pins s σ H x y v u Q I rx ry h
  obtain ⟨b,c,rfl,rfl,q⟩:=h
  cases rx
  cases ry
  exact PyProof.Rows.isnot_bool ⟨.bl _,H,I,rfl,q⟩
end
end L2
namespace L2
open PySem PySem.Spec PyProof.Rows
end L2
namespace L2
open PySem PySem.Spec PyProof.Rows
def SameBut (a : Addr) (H H' : Hp) : Prop:=∀ b o,H b = some o -> H' b = some o \/ (b = a /\ ∃ xs ys,o = .lst xs /\ H' b = some (.lst ys))
section
variable {K : PySem.W.Frag} {cap : List (Option Nat)} {te : TE} {σ : St} {H1 : Hp} {Q : VK}
end
section
variable {X : Cx} {pos : Pos}
end
end L2
namespace L2
open PySem PySem.Spec PyProof.Rows
theorem cellsFrom_look : ∀ (names : List (Str × NameKind)) (h : Heap) (acc : List (Str × Addr)) (x : Str) (c : Addr),(cellsFrom h.objs.size names acc).lookup x = some c ->
    acc.lookup x = some c \/ ((x,NameKind.cell) ∈ names /\ h.objs.size <= c /\ (pushCells h names).IsCell c none)
  | [],_,_,_,_,e=>.inl e
  | (name,kind) :: r,h,acc,x,c,e=>by
    unfold cellsFrom at e
    unfold pushCells
    by_cases hk : (kind == NameKind.cell) = true
    · rw [if_pos hk] at e ⊢
      have hk' : kind = .cell:=by simpa using hk
      have ih:=cellsFrom_look r (h.push { cls:=.type "cell",data:=.cell none }) ((name,h.objs.size) :: acc) x c (by rw [Heap.size_push]; exact e)
      rw [Heap.size_push] at ih
      rcases ih with z | ⟨z1,z2,z3⟩
      · rw [List.lookup_cons] at z
        cases hb : x == name with
        | true=>
          rw [hb] at z; cases z
          exact .inr ⟨by rw [beq_iff_eq.mp hb,hk']; exact List.mem_cons_self,Nat.le_refl _,⟨_,pushCells_keeps _ _ _ _ (Heap.get?_push_size _ rfl),rfl⟩⟩
        | false=>rw [hb] at z; exact .inl z
      · exact .inr ⟨List.mem_cons_of_mem _ z1,by omega,z3⟩
    · rw [if_neg hk] at e ⊢
      rcases cellsFrom_look r h acc x c e with z | ⟨z1,z2,z3⟩
      · exact .inl z
      · exact .inr ⟨List.mem_cons_of_mem _ z1,z2,z3⟩
theorem cellsFrom_old {x : Str} : ∀ (names : List (Str × NameKind)) (n : Nat) (acc : List (Str × Addr)),(x,NameKind.cell) ∉ names -> (cellsFrom n names acc).lookup x = acc.lookup x
  | [],_,_,_=>rfl
  | (name,kind) :: r,n,acc,h=>by
    unfold cellsFrom
    have hr : (x,NameKind.cell) ∉ r:=fun z=>h (List.mem_cons_of_mem _ z)
    by_cases hk : (kind == NameKind.cell) = true
    · rw [if_pos hk,cellsFrom_old r _ _ hr,List.lookup_cons]
      cases hb : x == name with
      | true=>exact absurd (by rw [beq_iff_eq.mp hb,show kind = .cell by simpa using hk]; exact List.mem_cons_self) h
      | false=>rfl
    · rw [if_neg hk,cellsFrom_old r _ _ hr]
theorem cellsFrom_new {x : Str} {c : Addr} : ∀ (names : List (Str × NameKind)) (n : Nat) (acc : List (Str × Addr)),(x,NameKind.cell) ∈ names -> (cellsFrom n names acc).lookup x = some c -> n <= c
  | [],_,_,h,_=>by cases h
  | (name,kind) :: r,n,acc,h,e=>by
    unfold cellsFrom at e
    by_cases hr : (x,NameKind.cell) ∈ r
    · by_cases hk : (kind == NameKind.cell) = true
      · rw [if_pos hk] at e
        exact Nat.le_of_succ_le (cellsFrom_new r _ _ hr e)
      · rw [if_neg hk] at e
        exact cellsFrom_new r _ _ hr e
    · rcases List.mem_cons.mp h with q | q
      · cases q
        rw [if_pos (by decide),cellsFrom_old r _ _ hr,List.lookup_cons] at e
        simp at e
        exact Nat.le_of_eq e
      · exact absurd q hr
theorem cellsFrom_inj : ∀ (names : List (Str × NameKind)) (n : Nat) (acc : List (Str × Addr)),(∀ x c,acc.lookup x = some c -> c < n) -> (∀ x y c,acc.lookup x = some c -> acc.lookup y = some c -> x = y) ->
    ∀ x y c,(cellsFrom n names acc).lookup x = some c -> (cellsFrom n names acc).lookup y = some c -> x = y
  | [],_,_,_,h=>h
  | (name,kind) :: r,n,acc,h1,h2=>by
    unfold cellsFrom
    by_cases hk : (kind == NameKind.cell) = true
    · rw [if_pos hk]
      refine cellsFrom_inj r (n + 1) _ (fun x c e=>?_) (fun x y c e e'=>?_)
      · rw [List.lookup_cons] at e
        cases hb : x == name with
        | true=>rw [hb] at e; cases e; exact Nat.lt_succ_self _
        | false=>rw [hb] at e; exact Nat.lt_succ_of_lt (h1 x c e)
      · rw [List.lookup_cons] at e e'
        cases hb : x == name with
        | true=>
          rw [hb] at e; cases e
          cases hb' : y == name with
          | true=>rw [beq_iff_eq.mp hb,beq_iff_eq.mp hb']
          | false=>rw [hb'] at e'; exact absurd (h1 y _ e') (Nat.lt_irrefl _)
        | false=>
          rw [hb] at e
          cases hb' : y == name with
          | true=>rw [hb'] at e'; cases e'; exact absurd (h1 x _ e) (Nat.lt_irrefl _)
          | false=>rw [hb'] at e'; exact h2 x y c e e'
    · rw [if_neg hk]
      exact cellsFrom_inj r n acc h1 h2
theorem wpAny_newEnvC {M : Model} {A : Around} {E : Value -> Shared -> Prop} {s : Shared} {scope : Scope} {globals : Addr} {cl : List (Str × Addr)} {qual : Str} {func : Option Addr} {code : Value} {env : Env} {builtins : Addr} {Q : Env -> Shared -> Prop}
    (hQ : Q (newEnv scope s.heap.objs.size globals (cellsFrom (s.heap.objs.size + 1) scope.names cl) qual func code (some env) builtins) { s with heap:=pushCells (s.heap.push { cls:=.type "dict",data:=.dict #[] }) scope.names }) :
    wpAny M A (newFunctionEnv scope globals cl [] qual func code (some env) builtins) Q E s:=by
  simp only [newFunctionEnv,Option.isSome_some,if_true]
  refine wpAny_bind (wpAny_alloc ?_)
  refine wpAny_bind (wpAny_layCells _ (fun name kind cells=>by cases hkc : kind == NameKind.cell <;> simp [hkc]) _ _ _ _ ?_)
  rw [show ({ s with heap:=s.heap.push { cls:=.type "dict",data:=.dict #[] } } : Shared).heap.objs.size = s.heap.objs.size + 1 from Heap.size_push ..]
  refine wpAny_bind ?_
  rw [List.forIn_nil]
  exact wpAny_pure (wpAny_pure hQ)
def compOkC (N N' : List Str) (sc scE : Scope) (cap : List (Option Nat)) : Bool:=
  sc.kind == .function && sc.names.all (fun x=>x.2 != .cell || sc.names.lookup x.1 == some .cell) && sc.names.all (fun x=>x.2 != .local || sc.names.lookup x.1 == some .local) &&
  sc.names.all (fun x=>x.2 != .free || scE.names.lookup x.1 == some .cell || scE.names.lookup x.1 == some .free) && cap.length == N'.length &&
  (List.range cap.length).all (fun i=>match cap[i]? with
    | some (some j)=>(match N'[i]?,N[j]? with | some a,some b=>a == b && sc.names.lookup a == some .free | _,_=>false)
    | _=>true)
structure CompOkC (N N' : List Str) (sc scE : Scope) (cap : List (Option Nat)) : Prop where
  kind : sc.kind = .function
  cel : ∀ x ∈ sc.names,x.2 = .cell -> sc.names.lookup x.1 = some .cell
  loc : ∀ x ∈ sc.names,x.2 = .local -> sc.names.lookup x.1 = some .local
  fre : ∀ x ∈ sc.names,x.2 = .free -> scE.names.lookup x.1 = some .cell \/ scE.names.lookup x.1 = some .free
  len : cap.length = N'.length
  at_ : ∀ (i j : Nat),cap[i]? = some (some j) -> ∃ x,N'[i]? = some x /\ N[j]? = some x /\ sc.names.lookup x = some .free
theorem compOkC.of {N N' : List Str} {sc scE : Scope} {cap : List (Option Nat)} (h : compOkC N N' sc scE cap = true) : CompOkC N N' sc scE cap:=by
  unfold compOkC at h
  simp only [Bool.and_eq_true,List.all_eq_true,beq_iff_eq,Bool.or_eq_true,bne_iff_ne] at h
  obtain ⟨⟨⟨⟨⟨h1,h2⟩,h3⟩,h4⟩,h5⟩,h6⟩:=h
  refine ⟨h1,fun x hx e=>?_,fun x hx e=>?_,fun x hx e=>?_,h5,fun i j e=>?_⟩
  · rcases h2 x hx with z | z
    · exact absurd e z
    · exact z
  · rcases h3 x hx with z | z
    · exact absurd e z
    · exact z
  · rcases h4 x hx with (z | z) | z
    · exact absurd e z
    · exact .inl z
    · exact .inr z
  · have hi : i < cap.length:=(List.getElem?_eq_some_iff.mp e).1
    have:=h6 i (List.mem_range.mpr hi)
    rw [e] at this
    simp only at this
    cases e1 : N'[i]? with
    | none=>rw [e1] at this; cases this
    | some a=>
      cases e2 : N[j]? with
      | none=>rw [e1,e2] at this; cases this
      | some b=>
        rw [e1,e2] at this
        simp only [Bool.and_eq_true,beq_iff_eq] at this
        obtain ⟨rfl,z⟩:=this
        exact ⟨a,rfl,rfl,z⟩
def blkC (X : Cx) (N' : List Str) (sc : Scope) (cl : List (Str × Addr)) (C : Addr) (s0 : Shared) (H0 : Hp) (ex : List Addr) : Cx:=
  { X with N:=N',s₀:=s0,H₀:=H0,env:=compEnvC sc cl C X.env,outer:=X.stack,ex:=ex,fn:=fun x=>sc.names.lookup x == some .cell,pn:=[],xe:=fun _ _=>False }
section
variable {X : Cx}
theorem blk_invC {pins : List (Addr × Obj)} {σ : St} {H : Hp} {s : Shared} {N N' : List Str} {sc scE : Scope} {cap : List (Option Nat)} {cl : List (Str × Addr)} {fp : List Addr}
    (I : Inv X pins σ H s) (hN : X.N = N) (hE : X.env.scope = scE) (ck : CompOkC N N' sc scE cap) (c1 : ∀ x c,cl.lookup x = some c -> X.env.cells.lookup x = some c) (c2 : ∀ x ∈ sc.names,x.2 = .free -> ∃ c,cl.lookup x.1 = some c)
    (hf : ∀ b ∈ fp,FpOk X pins H b) (hfs : ∀ b ∈ fp,b < s.heap.objs.size) :
    Inv (blkC X N' sc (cellsFrom (s.heap.objs.size + 1) sc.names cl) s.heap.objs.size s H fp) [] (capOf cap σ) H { s with heap:=pushCells (s.heap.push { cls:=.type "dict",data:=.dict #[] }) sc.names }:=by
  obtain ⟨h₁,hh₁⟩ : ∃ h₁,pushCells (s.heap.push { cls:=.type "dict",data:=.dict #[] }) sc.names = h₁:=⟨_,rfl⟩
  obtain ⟨cl',hcl'⟩ : ∃ cl',cellsFrom (s.heap.objs.size + 1) sc.names cl = cl':=⟨_,rfl⟩
  rw [hh₁,hcl']
  have keep : ∀ b o,s.heap.get? b = some o -> h₁.get? b = some o:=fun b o e=>by rw [<- hh₁]; exact pushCells_keeps _ _ b o (Heap.get?_push_of_some _ e)
  have hns : h₁.Ns s.heap.objs.size (fun _=>none):=by rw [<- hh₁]; exact (Heap.Ns.new s.heap (.type "dict")).keeps (pushCells_keeps _ _)
  have look : ∀ x c,cl'.lookup x = some c -> cl.lookup x = some c \/ (s.heap.objs.size + 1 <= c /\ h₁.IsCell c none):=fun x c e=>by
    rw [<- hcl'] at e
    have:=cellsFrom_look (sc.names) (s.heap.push { cls:=.type "dict",data:=.dict #[] }) cl x c (by rw [Heap.size_push]; exact e)
    rw [Heap.size_push,hh₁] at this
    rcases this with z | ⟨_,z,z'⟩
    · exact .inl z
    · exact .inr ⟨z,z'⟩
  have cellLt : ∀ x c,cl.lookup x = some c -> c < s.heap.objs.size:=fun x c e=>by
    obtain ⟨v,o,ho,_⟩:=I.cell x c (c1 x c e)
    exact Heap.lt_size ho
  have inj : ∀ x y c,cl'.lookup x = some c -> cl'.lookup y = some c -> x = y:=by
    rw [<- hcl']
    exact cellsFrom_inj _ _ _ (fun x c e=>Nat.lt_succ_of_lt (cellLt x c e)) fun x y c a b=>I.ok.inj x y c (c1 x c a) (c1 y c b)
  have isC : ∀ x,sc.names.lookup x = some .cell -> ∃ c,cl'.lookup x = some c:=fun x e=>by
    rw [<- hcl']
    exact Option.isSome_iff_exists.mp (PySem.W.cellsFrom_some _ _ _ (.inl e))
  have isF : ∀ x,sc.names.lookup x = some .free -> cl'.lookup x = cl.lookup x:=fun x e=>by
    rw [<- hcl']
    refine cellsFrom_old _ _ _ fun z=>?_
    have:=ck.cel _ z rfl
    rw [e] at this; cases this
  have kindOf : ∀ x k,(compEnvC sc cl' s.heap.objs.size X.env).kindOf x = some k -> k = .cell \/ k = .free -> sc.names.lookup x = some .free \/ sc.names.lookup x = some .cell:=fun x k e hk=>by
    have e' : (relabel sc X.env).names.lookup x = some k:=e
    rw [relabel_lookup] at e'
    cases q : sc.names.lookup x with
    | none=>rw [q] at e'; cases e'
    | some k'=>
      rw [q] at e'
      have e'' : (if (k' == NameKind.free && X.env.scope.kind == .function && X.env.kindOf x == some .cell) = true then NameKind.cell else k') = k:=Option.some.inj e'
      by_cases hc : (k' == NameKind.free && X.env.scope.kind == .function && X.env.kindOf x == some .cell) = true
      · simp only [Bool.and_eq_true,beq_iff_eq] at hc
        rw [hc.1.1]; exact .inl rfl
      · rw [if_neg hc] at e''
        subst e''
        rcases hk with z | z
        · rw [z]; exact .inr rfl
        · rw [z]; exact .inl rfl
  have cellAt : ∀ x c,X.env.cells.lookup x = some c -> ∀ v,s.heap.IsCell c v -> h₁.IsCell c v:=fun x c e v ⟨o,ho,hd⟩=>⟨o,keep c o ho,hd⟩
  have Hnew : ∀ c,s.heap.objs.size <= c -> H c = none:=fun c hc=>I.hok.fresh hc
  refine ⟨⟨I.ok.mod,ck.kind,I.ok.glob,I.ok.blt,Nat.le_refl _,inj,fun x hx=>?_,fun x c h1 h2=>?_,I.ok.hd,I.ok.frames,.inl rfl,fun b hb=>?_,I.bs,
    Nat.le_trans I.ok.bsz I.sz,fun b o e hb=>?_,fun b hb hz=>?_,I.stack,I.stkFree⟩,rfl,I.bare,Un.kept keep,⟨_,hns,fun i x v e1 e2 e3=>?_⟩,fun x c e=>?_,Hnew _ (Nat.le_refl _),fun x c e=>?_,fun p hp=>(by cases hp),I.hok.kept keep,?_⟩
  · have hx : (compEnvC sc cl' s.heap.objs.size X.env).kindOf x = some .cell \/ (compEnvC sc cl' s.heap.objs.size X.env).kindOf x = some .free:=hx
    have q : sc.names.lookup x = some .free \/ sc.names.lookup x = some .cell:=by
      rcases hx with z | z
      · exact kindOf x _ z (.inl rfl)
      · exact kindOf x _ z (.inr rfl)
    rcases q with q | q
    · obtain ⟨c,hc⟩:=c2 _ (PySem.mem_of_lookup q) rfl
      exact ⟨c,(isF x q).trans hc⟩
    · exact isC x q
  · have h1 : sc.names.lookup x = some .cell:=by simpa [blkC] using h1
    have h2 : cl'.lookup x = some c:=h2
    rw [<- hcl'] at h2
    exact Nat.le_trans (Nat.le_succ _) (cellsFrom_new _ _ _ (PySem.mem_of_lookup h1) h2)
  · refine ⟨Nat.ne_of_lt (hfs b hb),fun x c e=>?_⟩
    rcases look x c e with z | ⟨z,_⟩
    · exact (hf b hb).2.2.2.2.1 x c (c1 x c z)
    · exact fun q=>absurd (Nat.lt_of_lt_of_le (hfs b hb) (Nat.le_trans (Nat.le_succ _) (q ▸ z))) (Nat.lt_irrefl _)
  · rcases (hf b hb).2.2.2.1 with z | z
    · exact I.ok.noex b o e z
    · exact absurd (Nat.lt_of_lt_of_le (Heap.lt_size e) (Nat.le_trans I.ok.bsz z)) (Nat.lt_irrefl _)
  · rcases List.mem_cons.mp (I.stkSub b hz) with e | z
    · exact (hf b hb).2.1 e
    · exact (hf b hb).2.2.1 z
  · have e1 : N'[i]? = some x:=e1
    have e2 : (capOf cap σ)[i]? = some (some v):=e2
    unfold capOf at e2
    rw [List.getElem?_map] at e2
    cases q : cap[i]? with
    | none=>rw [q] at e2; cases e2
    | some oj=>
      rw [q] at e2
      cases oj with
      | none=>cases e2
      | some j=>
        obtain ⟨y,z1,z2,z3⟩:=ck.at_ i j q
        rw [e1] at z1; cases z1
        have ev : σ[j]? = some (some v):=by
          have e2' : (σ[j]?).join = some v:=Option.some.inj e2
          cases r : σ[j]? with
          | none=>rw [r] at e2'; cases e2'
          | some o=>rw [r] at e2'; exact congrArg some e2'
        obtain ⟨m',hm',hl⟩:=I.loc
        have sK : X.env.scope.names.lookup x = some .cell \/ X.env.scope.names.lookup x = some .free:=by rw [hE]; exact ck.fre _ (PySem.mem_of_lookup z3) rfl
        obtain ⟨u,ru,l⟩:=hl j x v (by rw [hN]; exact z2) ev (sK.elim (fun z=>.inr (.inl z)) fun z=>.inr (.inr z))
        refine ⟨u,ru,?_⟩
        obtain ⟨c,hc⟩:=c2 _ (PySem.mem_of_lookup z3) rfl
        rcases l with ⟨k,_⟩ | ⟨k,c',hc',hcell⟩
        · have k : X.env.scope.names.lookup x = some .local:=k
          rcases sK with z | z <;> (rw [k] at z; cases z)
        · have : c = c':=by
            have q1:=c1 x c hc
            rw [hc'] at q1
            exact (Option.some.inj q1).symm
          subst this
          refine .inr ⟨?_,c,(isF x z3).trans hc,cellAt x c hc' _ hcell⟩
          show (relabel sc X.env).names.lookup x = some .cell \/ (relabel sc X.env).names.lookup x = some .free
          rw [relabel_lookup,z3]
          show some (if _ then NameKind.cell else NameKind.free) = _ \/ some (if _ then NameKind.cell else NameKind.free) = _
          split
          · exact .inl rfl
          · exact .inr rfl
  · rcases look x c e with z | ⟨_,z⟩
    · obtain ⟨v,q⟩:=I.cell x c (c1 x c z)
      exact ⟨v,cellAt x c (c1 x c z) v q⟩
    · exact ⟨_,z⟩
  · rcases look x c e with z | ⟨z,_⟩
    · exact I.freeC x c (c1 x c z)
    · exact Hnew c (by omega)
  · unfold capOf
    show _ = N'.length
    rw [List.length_map]
    exact ck.len
end
end L2
namespace L2
open PySem PySem.Spec PyProof.Rows
section
variable {X : Cx}
end
end L2
namespace PySem
open Sem (wp)
section
variable {prog : Program} {w : World} {A : Around} {E : Value -> Shared -> Prop} {hp : Heap} {gs : Array GenState} {dr : Drawn} {tk : Nat} {sy : OsState}
variable {cn cq : Str} {kC kN : Addr} {bas tl tB : List Value} {hd : Bool} {sns : List Str} {subs : List Value} {abb : Bool} {coll : Option Bool} {dic : Option Addr} {j0 j1 j2 j3 j5 : Option Value} {BB Bn newI nI initI inN : String} {tN : List Value}
end
section
variable {M : Model} {A : Around} {E : Value -> Shared -> Prop} {env : Env}
variable {cn cq : Str} {kC kN : Addr} {bas tl : List Value} {hd : Bool} {sns : List Str} {subs : List Value} {abb : Bool} {coll : Option Bool} {dic : Option Addr} {j0 j1 j2 j3 j5 : Option Value} {newI : String}
end
end PySem
namespace L2
open PySem PySem.Spec PyProof.Rows PySem.W PySem.Builtin.ObjectAttr
section
variable {prog : Program} {w : World} {A : Around} {E : Value -> Shared -> Prop} {s : Shared} {K : Frag} {x C W : Addr} {name : Str} {v : Value}
end
end L2
namespace L2
open PySem PySem.Spec PyProof.Rows PySem.W
section
variable {prog : Program} {w : World} {A : Around} {E : Value -> Shared -> Prop} {s : Shared} {K : Frag} {x C W f : Addr}
end
section
variable {X : Cx} {x C W f : Addr}
end
end L2
namespace PySem
open Sem (wp)
def fld2 (o : Obj) : Option Value:=match o.data with | .fields vs=>vs[2]? | _=>none
theorem fld2_map {o : Obj} {vs : Array Value} {x : Value} (od : o.data = .fields vs) : fld2 (Obj.mapFields (·.setIfInBounds 1 x) o) = fld2 o:=by
  have d:=Obj.data_mapFields od (·.setIfInBounds 1 x)
  unfold fld2
  rw [d,od]
  exact Array.getElem?_setIfInBounds_ne (by decide)
section
variable {M : Model} {A : Around} {E : Value -> Shared -> Prop} {s : Shared} {bs : Heap} {en : Env} {ou : List Env} {L e : Addr} {ob : Obj} {vs : Array Value} {a0 : Value} {Q : Unit -> Shared -> Prop}
theorem entry_dict {head : Value} {nx : Bool} (fr : A.frames = some (en :: ou)) (ff : s.heap.FunFrames bs (en :: ou)) (ef : en.frame = some L) (oe : s.heap.get? e = some ob) (kb : bs.StaysIn s.heap) (ne : bs.get? e = none)
    (od : ob.data = .fields vs) (z1 : 1 < vs.size) (z0 : vs[0]? = some a0)
    (h : ∀ h',Heap.LeftW bs (en :: ou) e ob.cls a0 s.heap h' -> (∃ o',h'.get? e = some o' /\ o'.dict = ob.dict /\ fld2 o' = fld2 ob) -> Q () { s with heap:=h' }) :
    wpAny M A (do
      let a <- frameOf en
      let pl <- entryPlaceOf L nx
      let b <- EntryCells.newEntry head a .none (rawInt L) .none pl
      setField (.ref e) 1 b) (fun _ s'=>wpAny M A (setFlight (.ref e) none) Q E s') E s:=by
  have nf : e ∉ (en :: ou).filterMap (·.frame):=fun m=>by
    obtain ⟨_,o,q,n⟩:=ff.mem m
    rw [oe] at q
    cases q
    exact n vs od
  refine wpAny_bind (wpAny_frameOf_fun fr ff ef fun g gs=>?_)
  refine wpAny_bind (wpAny_entryPlaceOf fun pl hp=>?_)
  unfold EntryCells.newEntry newFields
  refine wpAny_bind (wpAny_newObj_type ?_ (hp.sizeOk5 _ _ _ _ _))
  have ge : g.get? e = some ob:=(gs.2.1 e nf).trans oe
  have gb : bs.StaysIn g:=fun b o q=>(gs.2.1 b fun m=>by
    rw [(ff.mem m).1] at q
    cases q).trans (kb b o q)
  obtain ⟨tb,etb⟩ : ∃ tb : List Value,[head,.ref L,.none,rawInt L,.none] ++ (if pl.isEmpty then List.replicate 6 Value.none else pl) = tb:=⟨_,rfl⟩
  have l5 : 3 < tb.length /\ tb[3]? = some (rawInt L):=by
    rw [<- etb]
    exact ⟨by simp,by simp⟩
  rw [etb]
  have ge2:=Heap.get?_push_of_some (h:=g) { cls:=.type "traceback",dict:=none,data:=.fields tb.toArray } ge
  refine wpAny_setField ge2 od z1 ?_
  have te : g.objs.size ≠ e:=Nat.ne_of_gt (Heap.lt_size ge)
  have d3:=Obj.data_mapFields od (·.setIfInBounds 1 (Value.ref g.objs.size))
  have ge3:=Heap.get?_update_self (Obj.mapFields (·.setIfInBounds 1 (Value.ref g.objs.size))) ge2 (Obj.isFreed_of_fields d3)
  have gt3:=(Heap.get?_update_other (g.push { cls:=.type "traceback",dict:=none,data:=.fields tb.toArray })
    (Obj.mapFields (·.setIfInBounds 1 (Value.ref g.objs.size))) te.symm).trans
    (Heap.get?_push_size g rfl)
  unfold setFlight
  refine wpAny_bind (wpAny_field ge3 d3 (x:=.ref g.objs.size) (by simp [z1]) ?_)
  rw [if_pos (show (Value.ref g.objs.size != Value.none) = true by simp)]
  refine wpAny_setField gt3 rfl (by simpa using l5.1) (h _ ?_ ?_)
  all_goals
    obtain ⟨g3,eg3⟩ : ∃ g3,((g.push { cls:=.type "traceback",dict:=none,data:=.fields tb.toArray }).update e (Obj.mapFields (·.setIfInBounds 1 (Value.ref g.objs.size)))) = g3:=⟨_,rfl⟩
    rw [eg3] at ge3 gt3 ⊢
  · have kp : ∀ b o,b ≠ e -> g.get? b = some o -> (g3.update g.objs.size (Obj.mapFields (·.setIfInBounds 3 ((none : Option Addr).elim Value.none fun f=>rawInt f)))).get? b = some o:=fun b o n q=>by
      rw [Heap.get?_update_other _ _ (Nat.ne_of_gt (Heap.lt_size q)),<- eg3,Heap.get?_update_other _ _ n.symm]
      exact Heap.get?_push_of_some _ q
    have nr : ∀ b o,s.heap.get? b = some o -> (∀ ws,o.data ≠ .fields ws) -> b ≠ e:=fun b o q n z=>by
      rw [z,oe] at q
      cases q
      exact n vs od
    refine ⟨fun b o q=>kp b o (fun z=>by rw [z,ne] at q; cases q) (gb b o q),ff.of_keeps fun b o q n=>?_,?_,fun b o q n=>?_⟩
    · obtain ⟨sl,z⟩:=gs.2.2 b o q
      exact ⟨_,kp b _ (nr b o q n) z,rfl⟩
    · refine ⟨_,_,g.objs.size,_,_,?_,⟨Obj.cls_mapFields _ _,?_⟩,d3,by simp [z1],gb.fresh,te,Heap.get?_update_self _ gt3 (Obj.isFreed_of_fields (Obj.data_mapFields rfl _)),Obj.data_mapFields rfl _,?_⟩
      · rw [Heap.get?_update_other _ _ te]
        exact ge3
      · rw [Array.getElem?_setIfInBounds_ne (by decide)]
        exact z0
      · have:=l5.1
        simp [this]
    · obtain ⟨sl,z⟩:=gs.2.2 b o q
      exact ⟨sl,kp b _ (nr b o q n) z⟩
  · refine ⟨_,(Heap.get?_update_other _ _ te).trans ge3,?_,fld2_map od⟩
    cases ob with
    | mk c d dt sl=>cases dt <;> first | rfl | cases od
theorem leave1_dict (fr : A.frames = some (en :: ou)) (ff : s.heap.FunFrames bs (en :: ou)) (ef : en.frame = some L) (oe : s.heap.get? e = some ob) (kb : bs.StaysIn s.heap) (ne : bs.get? e = none)
    (od : ob.data = .fields vs) (z1 : vs[1]? = some .none) (z0 : vs[0]? = some a0)
    (h : ∀ h',Heap.LeftW bs (en :: ou) e ob.cls a0 s.heap h' -> (∃ o',h'.get? e = some o' /\ o'.dict = ob.dict /\ fld2 o' = fld2 ob) -> Q () { s with heap:=h' }) : wpAny M A (leaving en (.ref e)) Q E s:=by
  unfold leaving noteFrame
  simp only [ef]
  refine wpAny_bind (wpAny_bind (wpAny_field oe od z1 ?_))
  rw [if_neg (by decide)]
  exact entry_dict fr ff ef oe kb ne od (Array.getElem?_eq_some_iff.mp z1).1 z0 h
theorem leave2_dict {cls : Value} {dv : Option Addr} (fr : A.frames = some (en :: ou)) (ef : en.frame = some L) (fl : Heap.FlyingW bs (en :: ou) e cls a0 s.heap) (dd : ∃ o',s.heap.get? e = some o' /\ o'.dict = dv /\ fld2 o' = some .none)
    (h : ∀ h',Heap.FlyingW bs ou e cls a0 h' -> (∃ o',h'.get? e = some o' /\ o'.dict = dv /\ fld2 o' = some .none) -> s.heap.UpToSlots h' -> Q () { s with heap:=h' }) : wpAny M A (leaving en (.ref e)) Q E s:=by
  obtain ⟨kb,ne,ff,oe,ws,T,oT,ts,he,⟨hc,z0⟩,od,z1,nT,Te,hT,dT,z3⟩:=fl
  obtain ⟨o',ho',hdv,hfl⟩:=dd
  rw [he] at ho'
  cases ho'
  unfold leaving noteFrame
  simp only [ef]
  refine wpAny_bind (wpAny_bind (wpAny_field he od z1 ?_))
  rw [if_pos (show (Value.ref T != Value.none) = true by simp)]
  refine wpAny_bind (wpAny_field hT dT z3 ?_)
  rw [if_neg (show ¬ ((Value.none == rawInt L) = true) by simp [rawInt])]
  refine wpAny_bind (wpAny_setField hT dT (Array.getElem?_eq_some_iff.mp z3).1 ?_)
  have ot : ∀ b,b ≠ T -> (s.heap.update T (Obj.mapFields (·.setIfInBounds 3 Value.none))).get? b = s.heap.get? b:=fun b n=>Heap.get?_update_other _ _ n.symm
  have nr : ∀ b o,s.heap.get? b = some o -> (∀ ws,o.data ≠ .fields ws) -> b ≠ T:=fun b o q n z=>by
    rw [z,hT] at q
    cases q
    exact n ts dT
  refine entry_dict fr (ff.of_keeps fun b o q n=>⟨o,(ot b (nr b o q n)).trans q,rfl⟩) ef ((ot e Te.symm).trans he) (fun b o q=>(ot b fun z=>by rw [z,nT] at q; cases q).trans (kb b o q)) ne od (Array.getElem?_eq_some_iff.mp z1).1 z0 fun h' lf d'=>?_
  obtain ⟨k1,⟨_,_,k2⟩,k3,k4⟩:=lf
  rw [hc] at k3
  exact h h' ⟨k1,ne,k2,k3⟩ (d'.imp fun o q=>⟨q.1,q.2.1.trans hdv,q.2.2.trans hfl⟩) fun b o q n=>k4 b o ((ot b (nr b o q n)).trans q) n
theorem note_entry_dict {head : Value} {nx : Bool} (fr : A.frames = some (en :: ou)) (ff : s.heap.FunFrames bs (en :: ou)) (ef : en.frame = some L) (oe : s.heap.get? e = some ob) (kb : bs.StaysIn s.heap) (ne : bs.get? e = none)
    (od : ob.data = .fields vs) (z1 : 1 < vs.size) (z0 : vs[0]? = some a0)
    (h : ∀ h',Heap.NotedW bs (en :: ou) e ob.cls a0 (rawInt L) s.heap h' -> (∃ o',h'.get? e = some o' /\ o'.dict = ob.dict /\ fld2 o' = fld2 ob) -> Q () { s with heap:=h' }) :
    wpAny M A (do
      let a <- frameOf en
      let pl <- entryPlaceOf L nx
      let b <- EntryCells.newEntry head a .none (rawInt L) .none pl
      setField (.ref e) 1 b) Q E s:=by
  have nf : e ∉ (en :: ou).filterMap (·.frame):=fun m=>by
    obtain ⟨_,o,q,n⟩:=ff.mem m
    rw [oe] at q
    cases q
    exact n vs od
  refine wpAny_bind (wpAny_frameOf_fun fr ff ef fun g gs=>?_)
  refine wpAny_bind (wpAny_entryPlaceOf fun pl hp=>?_)
  unfold EntryCells.newEntry newFields
  refine wpAny_bind (wpAny_newObj_type ?_ (hp.sizeOk5 _ _ _ _ _))
  have ge : g.get? e = some ob:=(gs.2.1 e nf).trans oe
  have gb : bs.StaysIn g:=fun b o q=>(gs.2.1 b fun m=>by
    rw [(ff.mem m).1] at q
    cases q).trans (kb b o q)
  obtain ⟨tb,etb⟩ : ∃ tb : List Value,[head,.ref L,.none,rawInt L,.none] ++ (if pl.isEmpty then List.replicate 6 Value.none else pl) = tb:=⟨_,rfl⟩
  have l5 : 3 < tb.length /\ tb[3]? = some (rawInt L):=by
    rw [<- etb]
    exact ⟨by simp,by simp⟩
  rw [etb]
  have ge2:=Heap.get?_push_of_some (h:=g) { cls:=.type "traceback",dict:=none,data:=.fields tb.toArray } ge
  have te : g.objs.size ≠ e:=Nat.ne_of_gt (Heap.lt_size ge)
  have d3:=Obj.data_mapFields od (·.setIfInBounds 1 (Value.ref g.objs.size))
  have ge3:=Heap.get?_update_self (Obj.mapFields (·.setIfInBounds 1 (Value.ref g.objs.size))) ge2 (Obj.isFreed_of_fields d3)
  have gt3:=(Heap.get?_update_other (g.push { cls:=.type "traceback",dict:=none,data:=.fields tb.toArray })
    (Obj.mapFields (·.setIfInBounds 1 (Value.ref g.objs.size))) te.symm).trans
    (Heap.get?_push_size g rfl)
  refine wpAny_setField ge2 od z1 (h _ ?_ ?_)
  · have kp : ∀ b o,b ≠ e -> g.get? b = some o -> ((g.push { cls:=.type "traceback",dict:=none,data:=.fields tb.toArray }).update e (Obj.mapFields (·.setIfInBounds 1 (Value.ref g.objs.size)))).get? b = some o:=fun b o n q=>by
      rw [Heap.get?_update_other _ _ n.symm]
      exact Heap.get?_push_of_some _ q
    have nr : ∀ b o,s.heap.get? b = some o -> (∀ ws,o.data ≠ .fields ws) -> b ≠ e:=fun b o q n z=>by
      rw [z,oe] at q
      cases q
      exact n vs od
    refine ⟨fun b o q=>kp b o (fun z=>by rw [z,ne] at q; cases q) (gb b o q),ff.of_keeps fun b o q n=>?_,?_,fun b o q n=>?_⟩
    · obtain ⟨sl,z⟩:=gs.2.2 b o q
      exact ⟨_,kp b _ (nr b o q n) z,rfl⟩
    · refine ⟨_,_,g.objs.size,_,_,ge3,⟨Obj.cls_mapFields _ _,?_⟩,d3,by simp [z1],gb.fresh,te,gt3,rfl,by simpa using l5.2⟩
      rw [Array.getElem?_setIfInBounds_ne (by decide)]
      exact z0
    · obtain ⟨sl,z⟩:=gs.2.2 b o q
      exact ⟨sl,kp b _ (nr b o q n) z⟩
  · refine ⟨_,ge3,?_,fld2_map od⟩
    cases ob with
    | mk c d dt sl=>cases dt <;> first | rfl | cases od
theorem look_dict {cls : Value} {dv : Option Addr} (fr : A.frames = some (en :: ou)) (ef : en.frame = some L) (fl : Heap.FlyingW bs (en :: ou) e cls a0 s.heap) (dd : ∃ o',s.heap.get? e = some o' /\ o'.dict = dv /\ fld2 o' = some .none)
    (h : ∀ h',Heap.HeldW bs (en :: ou) e cls a0 L h' -> (∃ o',h'.get? e = some o' /\ o'.dict = dv /\ fld2 o' = some .none) -> s.heap.UpToSlots h' -> Q () { s with heap:=h' }) : wpAny M A (noteFrame (.ref e) en) Q E s:=by
  obtain ⟨kb,ne,ff,oe,ws,T,oT,ts,he,⟨hc,z0⟩,od,z1,nT,Te,hT,dT,z3⟩:=fl
  obtain ⟨o',ho',hdv,hfl⟩:=dd
  rw [he] at ho'
  cases ho'
  unfold noteFrame
  simp only [ef]
  refine wpAny_bind (wpAny_field he od z1 ?_)
  rw [if_pos (show (Value.ref T != Value.none) = true by simp)]
  refine wpAny_bind (wpAny_field hT dT z3 ?_)
  rw [if_neg (show ¬ ((Value.none == rawInt L) = true) by simp [rawInt])]
  refine wpAny_bind (wpAny_setField hT dT (Array.getElem?_eq_some_iff.mp z3).1 ?_)
  have ot : ∀ b,b ≠ T -> (s.heap.update T (Obj.mapFields (·.setIfInBounds 3 Value.none))).get? b = s.heap.get? b:=fun b n=>Heap.get?_update_other _ _ n.symm
  have nr : ∀ b o,s.heap.get? b = some o -> (∀ ws,o.data ≠ .fields ws) -> b ≠ T:=fun b o q n z=>by
    rw [z,hT] at q
    cases q
    exact n ts dT
  refine note_entry_dict fr (ff.of_keeps fun b o q n=>⟨o,(ot b (nr b o q n)).trans q,rfl⟩) ef ((ot e Te.symm).trans he) (fun b o q=>(ot b fun z=>by rw [z,nT] at q; cases q).trans (kb b o q)) ne od (Array.getElem?_eq_some_iff.mp z1).1 z0 fun h' nt d'=>?_
  obtain ⟨k1,k2,k3,k4⟩:=nt
  rw [hc] at k3
  exact h h' ⟨k1,ne,k2,k3⟩ (d'.imp fun o q=>⟨q.1,q.2.1.trans hdv,q.2.2.trans hfl⟩) fun b o q n=>k4 b o ((ot b (nr b o q n)).trans q) n
theorem flight_dict {l : List Env} {cls fv : Value} {dv : Option Addr} (kb : bs.StaysIn s.heap) (ne : bs.get? e = none) (ff : s.heap.FunFrames bs l) (tr : s.heap.TracedAtW bs e cls a0 fv) (dd : ∃ o',s.heap.get? e = some o' /\ o'.dict = dv /\ fld2 o' = some .none)
    (h : ∀ h',Heap.FlyingW bs l e cls a0 h' -> (∃ o',h'.get? e = some o' /\ o'.dict = dv /\ fld2 o' = some .none) -> s.heap.UpToSlots h' -> Q () { s with heap:=h' }) : wpAny M A (setFlight (.ref e) none) Q E s:=by
  obtain ⟨oe,ws,T,oT,ts,he,hc,od,z1,nT,Te,hT,dT,z3⟩:=tr
  obtain ⟨o',ho',hdv,hfl⟩:=dd
  have s3:=(Array.getElem?_eq_some_iff.mp z3).1
  have ot : ∀ b,b ≠ T -> (s.heap.update T (Obj.mapFields (·.setIfInBounds 3 ((none : Option Addr).elim Value.none fun f=>rawInt f)))).get? b = s.heap.get? b:=fun b n=>Heap.get?_update_other _ _ n.symm
  have nr : ∀ b o,s.heap.get? b = some o -> (∀ ws,o.data ≠ .fields ws) -> b ≠ T:=fun b o q n z=>by
    rw [z,hT] at q
    cases q
    exact n ts dT
  unfold setFlight
  refine wpAny_bind (wpAny_field he od z1 ?_)
  rw [if_pos (show (Value.ref T != Value.none) = true by simp)]
  refine wpAny_setField hT dT s3 (h _ ⟨fun b o q=>(ot b fun z=>by rw [z,nT] at q; cases q).trans (kb b o q),ne,ff.of_keeps fun b o q n=>⟨o,(ot b (nr b o q n)).trans q,rfl⟩,?_⟩ ⟨o',(ot e Te.symm).trans ho',hdv,hfl⟩ fun b o q n=>⟨o.slots,(ot b (nr b o q n)).trans q⟩)
  exact ⟨oe,ws,T,_,_,(ot e Te.symm).trans he,hc,od,z1,nT,Te,Heap.get?_update_self _ hT (Obj.isFreed_of_fields (Obj.data_mapFields dT _)),Obj.data_mapFields dT _,by simp [s3]⟩
end
end PySem
namespace L2
open PySem PySem.Spec PyProof.Rows
def CXD (P : Program) (w : World) : CXT:=fun outer H s E e s'=>∃ a cls a0 dv H' B,e = Value.ref a /\ Fly P w outer H H' s s' a cls a0 B /\ (∃ o',s'.heap.get? a = some o' /\ o'.dict = dv /\ fld2 o' = some .none) /\ E cls dv H'
theorem pass00D {P : Program} {w : World} {X : Cx} : Passes (CXD P w) X E0:=fun _ _ _ _ _ _ _ h=>by
  obtain ⟨_,_,_,_,_,_,_,_,_,z⟩:=h
  exact z.elim
def delH (H : Hp) (a : Addr) : Hp:=fun b=>if b = a then none else H b
theorem delH_ne {H : Hp} {a b : Addr} (h : b ≠ a) : delH H a b = H b:=by unfold delH; rw [if_neg h]
theorem delH_self {H : Hp} {a : Addr} : delH H a a = none:=by unfold delH; rw [if_pos rfl]
section
variable {P : Program} {w : World} {K : PySem.W.Frag} {mg : Str -> Option Value} {base : Heap} {N : List Str} {qual : Str} {scope : Scope} {f : Addr} {cd : Value} {A : Around} {outer : List Env} {s : Shared} {H : Hp} {E : XK}
abbrev cxD (P : Program) (w : World) (K : PySem.W.Frag) (mg : Str -> Option Value) (base : Heap) (N : List Str) (qual : Str) (scope : Scope) (f : Addr) (cd : Value) (A : Around) (outer : List Env) (s : Shared) (H : Hp) (E : XK) : Cx:=cxOf (CXD P w) P w K mg base N qual scope f cd A outer s H E
theorem stk_neD {pins : List (Addr × Obj)} {σ : St} {H1 : Hp} {s1 : Shared} (I : Inv (cxD P w K mg base N qual scope f cd A outer s H E) pins σ H1 s1) {b : Addr} {o : Obj} (e : s.heap.get? b = some o) (n : b ∉ frs outer) : b ∉ frs (cxD P w K mg base N qual scope f cd A outer s H E).stack:=fun hb=>by
  rcases List.mem_cons.mp (I.stkSub b hb) with z | z
  · have h1 : b < s.heap.objs.size:=Heap.lt_size e
    have h2 : s.heap.objs.size <= (cxD P w K mg base N qual scope f cd A outer s H E).env.locals:=I.ok.above
    rw [<- z] at h2
    exact absurd (Nat.lt_of_lt_of_le h1 h2) (Nat.lt_irrefl _)
  · exact n z
theorem frs_subD {b : Addr} (h : b ∈ frs outer) : b ∈ frs (cxD P w K mg base N qual scope f cd A outer s H E).stack:=by
  show b ∈ frs (_ :: outer)
  unfold frs at h ⊢
  rw [List.filterMap_cons]
  split
  · exact h
  · exact List.mem_cons_of_mem _ h
theorem raiseD {pins : List (Addr × Obj)} {σ : St} {H1 : Hp} {s1 : Shared} {hx : Heap} {e C t : Addr} {dv : Option Addr} (I : Inv (cxD P w K mg base N qual scope f cd A outer s H E) pins σ H1 s1)
    (hk : ∀ b o,b ≠ e -> s1.heap.get? b = some o -> hx.get? b = some o) (he1 : ∀ o,s1.heap.get? e = some o -> ∃ vs,o.data = .fields vs) (new : s.heap.get? e = none) (hH : H1 e = none)
    (oe : hx.get? e = some { cls:=.ref C,dict:=dv,data:=.fields #[.ref t,.none,.none,.none,.bool false,.none] }) (hE : E (.ref C) dv H1) :
    (cxD P w K mg base N qual scope f cd A outer s H E).xe (.ref e) { s1 with heap:=hx }:=by
  have hin : ∀ en ∈ (cxD P w K mg base N qual scope f cd A outer s H E).stack,∀ b,en.frame = some b -> b ∈ e :: frs (cxD P w K mg base N qual scope f cd A outer s H E).stack:=fun en he b hb=>List.mem_cons_of_mem _ (List.mem_filterMap.mpr ⟨en,he,hb⟩)
  have ff:=PySem.W.funFrames_hide I.stack hin
  have nee : ∀ b o,s1.heap.get? b = some o -> (∀ vs,o.data ≠ .fields vs) -> b ≠ e:=fun b o q n z=>by
    subst z
    obtain ⟨vs,d⟩:=he1 o q
    exact n vs d
  have hid : (PySem.W.hideAll s1.heap (e :: frs (cxD P w K mg base N qual scope f cd A outer s H E).stack)).get? e = none:=PySem.W.hideAll_none _ List.mem_cons_self
  have kb : (PySem.W.hideAll s1.heap (e :: frs (cxD P w K mg base N qual scope f cd A outer s H E).stack)).StaysIn hx:=fun b o q=>hk b o (fun z=>by rw [z,hid] at q; cases q) (PySem.W.of_hideAll _ q)
  show wpAny (model P w) _ (leaving _ (.ref e)) _ _ _
  refine leave1_dict (bs:=PySem.W.hideAll s1.heap (e :: frs (cxD P w K mg base N qual scope f cd A outer s H E).stack)) (a0:=.ref t) (s:={ s1 with heap:=hx }) I.ok.frames (ff.of_keeps fun b o q n=>⟨o,hk b o (nee b o q n) q,rfl⟩) rfl oe kb hid rfl rfl rfl fun h2 lf dd=>?_
  obtain ⟨k1,⟨_,_,k2⟩,k3,k4⟩:=lf
  have noex : ∀ b : Addr,b ∉ (cxD P w K mg base N qual scope f cd A outer s H E).ex:=fun b z=>absurd (show b ∈ ([] : List Addr) from z) (by simp)
  have nse : ∀ b o,s.heap.get? b = some o -> b ≠ e:=fun b o q z=>by rw [z,new] at q; cases q
  have out : ∀ b o,s.heap.get? b = some o -> b ∉ frs outer -> b ∉ e :: frs (cxD P w K mg base N qual scope f cd A outer s H E).stack:=fun b o q n m=>by
    rcases List.mem_cons.mp m with z | z
    · exact nse b o q z
    · exact stk_neD I q n z
  refine ⟨e,.ref C,.ref t,dv,H1,_,rfl,⟨I.os,I.bare,⟨k1,hid,k2,k3⟩,fun b u q=>?_,fun b o q n hb=>?_,fun b o q hb=>?_,fun b o q hb=>?_,fun b o q n=>I.base.free b o q n (noex b),I.base.tups,I.base.frzs,I.base.tbls⟩,dd,hE⟩
  · have ne : ∀ c v,H1 c = some v -> c ∉ e :: frs (cxD P w K mg base N qual scope f cd A outer s H E).stack:=fun c v z m=>by
      rcases List.mem_cons.mp m with m | m
      · rw [m,hH] at z; cases z
      · rw [I.stkFree c m] at z; cases z
    refine (I.hok b u q).stay (fun c v hc r=>PySem.W.hideAll_get _ r ?_) (fun _ r=>r) fun _ _ r=>r
    rcases hc with rfl | hc
    · exact ne c u q
    · exact ne c _ hc
  · exact PySem.W.hideAll_get _ (I.base.keep b o q n hb (noex b)) (out b o q hb)
  · obtain ⟨o',z⟩:=I.base.there b o q (noex b)
    exact ⟨o',PySem.W.hideAll_get _ z (out b o q hb)⟩
  · obtain ⟨sl,z⟩:=I.base.slot b o q (I.ok.frf b hb) hb (noex b)
    obtain ⟨_,o',ho',hnf⟩:=I.ok.funs.mem hb
    have ho2 : s.heap.get? b = some o':=ho'
    rw [q] at ho2
    cases ho2
    obtain ⟨sl',z'⟩:=k4 b _ (hk b _ (nse b o q) z) hnf
    exact ⟨sl',z'⟩
theorem pass_onD : Passes (CXD P w) (cxD P w K mg base N qual scope f cd A outer s H E) E:=by
  intro pins σ H1 s1 e s' I h
  obtain ⟨a,cls,a0,dv,H',B,rfl,F,dd,hE⟩:=h
  show wpAny (model P w) _ (leaving _ (.ref a)) _ _ _
  have noex : ∀ b : Addr,b ∉ (cxD P w K mg base N qual scope f cd A outer s H E).ex:=fun b z=>absurd (show b ∈ ([] : List Addr) from z) (by simp)
  refine leave2_dict I.ok.frames rfl F.fl dd fun h2 x1 d2 x2=>?_
  refine ⟨a,cls,a0,dv,H',B,rfl,⟨F.os.trans I.os,F.bare,x1,F.hokB,fun b o q n hb=>?_,fun b o q hb=>?_,fun b o q hb=>?_,fun b o q n=>?_,fun b xs q=>F.tups b xs (I.base.tups b xs q),fun b o u q=>F.frzs b o u (I.base.frzs b o u q),fun b ps q=>?_⟩,d2,hE⟩
  · exact F.keep b o (I.base.keep b o q n hb (noex b)) (I.base.free b o q n (noex b)) (stk_neD I q hb)
  · obtain ⟨o',z⟩:=I.base.there b o q (noex b)
    exact F.there b o' z (stk_neD I q hb)
  · obtain ⟨sl,z⟩:=I.base.slot b o q (I.ok.frf b hb) hb (noex b)
    obtain ⟨_,o',ho',hnf⟩:=I.ok.funs.mem hb
    have ho2 : s.heap.get? b = some o':=ho'
    rw [q] at ho2
    cases ho2
    obtain ⟨sl',z'⟩:=F.slot b _ z (frs_subD hb)
    obtain ⟨sl2,z2⟩:=x2 b _ z' hnf
    exact ⟨sl2,z2⟩
  · obtain ⟨o',z⟩:=I.base.there b o q (noex b)
    exact F.free b o' z (I.base.free b o q n (noex b))
  · obtain ⟨m1,e1⟩:=I.base.tbls b ps q
    obtain ⟨m2,e2⟩:=F.tbls b _ e1
    exact ⟨m1 ++ m2,by rw [e2,Array.append_assoc]⟩
end
section
variable {X : Cx}
def RaiseD (X : Cx) (E : XK) : Prop:=∀ (pins : List (Addr × Obj)) (σ : St) (H0 H1 : Hp) (s0 s1 : Shared) (hx : Heap) (e C t : Addr) (dv : Option Addr),Inv X pins σ H0 s0 -> s0.heap.get? e = none -> Inv X pins σ H1 s1 -> (∀ b o,b ≠ e -> s1.heap.get? b = some o -> hx.get? b = some o) ->
  (∀ o,s1.heap.get? e = some o -> ∃ vs,o.data = .fields vs) -> H1 e = none -> hx.get? e = some { cls:=.ref C,dict:=dv,data:=.fields #[.ref t,.none,.none,.none,.bool false,.none] } -> E (.ref C) dv H1 -> X.xe (.ref e) { s1 with heap:=hx }
theorem ps_raiseD {x : Str} {C : Addr} {e : Expr} {t : TA} {E : XK} {np cpos pos : Pos} (hcalm : X.calm = true) (RO : RaiseD X E) (hg : Gl X x) (hm : X.mg x = some (.ref C)) (q : PySem.W.excIn X.K C bmVE "ValueError.__new__" = true) (ha : PA X [e] t)
    (hdb : (x == ("__debug__" : Str)) = false:=by decide) (he : starEach [e] X.env = [(false,eval e X.env)]:=by rfl) : PS X (.Raise (some (.Call (.Name x np) [e] [] cpos)) none pos) (tRaise C E t):=by
  intro pins s σ H D I h
  obtain ⟨tl,N,nm,qn,bs,hdct,sn,sub,ab,col,dd,k0,k1,k2,k3,k5,mN,hC,hN,hni,T⟩:=(own_obj I.mod.kin hm q).obj
  refine wpAny_Raise_call_subU (C:=C) (nm:=nm) (q:=qn) (N:=N) (bs:=bs) (bm:=tl) (hdct:=hdct) (sn:=sn) (sub:=sub) (ab:=ab) (col:=col) (dd:=dd) (k0:=k0) (k1:=k1) (k2:=k2) (k3:=k3) (k5:=k5)
    PySem.F.excBase_ValueError (by decide +kernel) PySem.F.excBase_ValueError (mN:=mN) (T.hasType (by decide +kernel)) (I.ok.hd hcalm) (by rw [he]; rfl) hni (ld_glob I hg hm ⟨rfl,?_⟩ hdb)
  have ha':=ha cpos pins s σ H _ I h
  rw [he] at ha' ⊢
  refine Calls.evalArgs_plain (wpAny_mono ha' (fun us s1 ⟨vs,H1,I1,r,z,hE⟩=>?_) fun _ _ y=>y)
  refine ⟨rfl,by rw [<- r.length]; exact z,I1.bk _ _ hC,hN.keeps I1.bk,T.keeps I1.bk,fun h' e' hx=>?_⟩
  obtain ⟨t,oe,_,_⟩:=hx.there
  exact RO pins σ H1 H1 s1 s1 h' e' C t none I1 hx.new I1 (fun b o _ k=>hx.keeps b o k) (fun o k=>by rw [hx.new] at k; cases k) (I1.hok.none_of hx.new) oe hE
end
theorem raiseDok {P : Program} {w : World} {K : PySem.W.Frag} {mg : Str -> Option Value} {base : Heap} {N : List Str} {qual : Str} {scope : Scope} {f : Addr} {cd : Value} {A : Around} {outer : List Env} {s : Shared} {H : Hp} {E : XK} :
    RaiseD (cxD P w K mg base N qual scope f cd A outer s H E) E:=fun pins σ H0 H1 s0 s1 hx e C t dv I0 g0 I hk he1 hH oe hE=>by
  refine raiseD I hk he1 ?_ hH oe hE
  cases q : s.heap.get? e with
  | none=>rfl
  | some o=>
    obtain ⟨o',z⟩:=I0.base.there e o q (fun z=>absurd (show e ∈ ([] : List Addr) from z) (by simp))
    rw [g0] at z; cases z
theorem Fun.okD {P : Program} {w : World} {K : PySem.W.Frag} {mg : Str -> Option Value} {base : Heap} {x qual : Str} {st : Stmt} {f : Addr} {fd : FuncData} {N ps : List Str} {k : Nat} {sp : Sp} (F : Fun K x qual st f fd) (S : FnScope N ps (defScope st)) (len : ∀ vs H Q E,sp vs H Q E -> vs.length = ps.length)
    (hbody : ∀ (cdv : Value) (A : Around) (outer : List Env) (s : Shared) (H : Hp) (vs : List V) (Q : VK) (E : XK),Room k (A.deeper (envOfC qual (defScope st) s.heap.objs.size f cdv)) -> sp vs H Q E ->
      ∃ t,PSs (cxD P w K mg base N qual (defScope st) f cdv A outer s H E) (defBody st) t /\ t { nx:=fun _ H'=>Q .non H',rt:=Q } (start N vs) H) : FnOk P w K mg base (CXD P w) (k + 1) f fd ps sp:=by
  obtain ⟨oc,od,kV,doc,pm,an,cdv,ct,osl,rfl,lk,hcd⟩:=F.ex
  exact fn_of lk hcd S len fun A outer s H vs Q E hr hsp=>hbody cdv A outer s H vs Q E hr hsp
end L2
namespace L2
open PySem PySem.Spec PyProof.Rows PySem.W PySem.Builtin.Getset_descriptor
def IsXD (x C : Addr) (dv : Option Addr) (h : Heap) : Prop:=∃ ox vs,h.get? x = some ox /\ ox.cls = .ref C /\ ox.dict = dv /\ ox.data = .fields vs /\ vs[2]? = some .none
theorem IsXD.x {x C : Addr} {dv : Option Addr} {h : Heap} (I : IsXD x C dv h) : IsX x C h:=let ⟨ox,_,a,b,_⟩:=I; ⟨ox,a,b⟩
theorem extD_ok {P : Program} {w : World} {H : Hp} {h : Heap} {a C : Addr} {dv : Option Addr} (I : IsXD a C dv h) : ObjOk P w H h a (.ext (IsXD a C dv)):=
  ⟨I,(let ⟨o,_,e,_⟩:=I; ⟨o,e⟩),fun h1 h2 ⟨o,vs,e,c⟩ k=>⟨o,vs,k o e,c⟩⟩
section
variable {prog : Program} {w : World} {A : Around} {E : Value -> Shared -> Prop} {h : Heap} {g : Array GenState} {d : Drawn} {t : Nat} {os : OsState} {K : Frag} {x C dx : Addr} {name : Str} {v : Value} {m : Str -> Option Value}
end
section
variable {X : Cx}
end
section
variable {X : Cx} {pins : List (Addr × Obj)} {σ : St} {H H' : Hp} {s s' : Shared} {a C : Addr}
theorem handleD {cn n : Str} {i : Nat} {CC : Addr} {a0 : Value} {B : Heap} {dv : Option Addr} {np hpos : Pos} {b₀ : Stmt} {suite : List Stmt} {ts : TS} {D : Ends} (hN : X.N.Nodup) (hi : X.N[i]? = some n) (hk : X.env.scope.names.lookup n = some .local) (hex : ∀ b,b ∉ X.ex)
    (hst : X.stack = X.env :: X.outer) (hfr : X.env.frame = some X.env.locals) (hg : Gl X cn) (hm : X.mg cn = some (.ref CC)) (hx : exmOne X.K (.ref C) (.ref CC) = some true) (I : Inv X pins σ H s) (F : Fly X.prog X.w X.stack H H' s s' a (.ref C) a0 B) (dd : ∃ o',s'.heap.get? a = some o' /\ o'.dict = dv /\ fld2 o' = some .none)
    (hsuite : PSs (suiteCx X a) (b₀ :: suite) ts) (q : ts { nx:=fun σ2 H2=>D.nx (σ2.set i none) H2,rt:=fun _ _=>False } (σ.set i (some (.ref a))) (upd H' a (.ext (IsXD a C dv)))) (hdb : (cn == ("__debug__" : Str)) = false:=by decide) :
    wpAny (model X.prog X.w) X.A (noteFrame (.ref a) X.env) (fun _ s₂=>wpAny (model X.prog X.w) X.A (setFlight (.ref a) none) (fun _ s₃=>wpAny (model X.prog X.w) X.A (handleBy (.ref a) X.env [.ExceptHandler (some (.Name cn np)) (some n) (b₀ :: suite) hpos]) (SP X pins D) X.xe s₃) X.xe s₂) X.xe s':=by
  have hcls : (X.env.scope.kind == .class || (X.env.scope.kind == .module && X.env.locals != X.env.globals)) = false:=by rw [I.ok.kind]; rfl
  have fl0:=F.fl
  rw [hst] at fl0
  refine look_dict (by rw [<- hst]; exact I.ok.frames) hfr fl0 dd fun h4 held4 d4 sm4=>?_
  refine flight_dict (s:={ s' with heap:=h4 }) held4.1 held4.2.1 held4.2.2.1 held4.2.2.2 d4 fun h5 fl5 d5 sm5=>?_
  obtain ⟨n1,n2⟩:=F.new
  have I5 : Inv X pins σ H' { s' with heap:=h5 }:=F.inv I fl5.1 (sm4.trans sm5)
  obtain ⟨ob,hob,hobc⟩:=fl5.there
  have LT : Looks (model X.prog X.w) h5 (typeOf (.ref a)) (.ref C):=IsX.type ⟨ob,hob,hobc⟩
  refine wpAny_handleBy_cons (codeAny_handlers_test (ld_glob (X:=suiteCx X a) (I5.suite a) hg hm ?_ hdb)) (by intro z; cases z)
  refine (exm_one (h:=h5) I5.kIn LT hx).at ?_
  refine codeAny_handlers_suite_as ?_
  refine flight_dict (s:={ s' with heap:=h5 }) fl5.1 fl5.2.1 fl5.2.2.1 fl5.2.2.2.at d5 fun h6 fl6 d6 sm6=>?_
  have I6 : Inv X pins σ H' { s' with heap:=h6 }:=F.inv I fl6.1 ((sm4.trans sm5).trans sm6)
  obtain ⟨ob6,vs6,hob6,hobc6,hod6,_⟩:=fl6.first
  obtain ⟨o',ho',hd',hf'⟩:=d6
  rw [hob6] at ho'
  cases ho'
  have I7 : Inv X pins σ (upd H' a (.ext (IsXD a C dv))) { s' with heap:=h6 }:=Inv.track I hex n1 I6 n2 (extD_ok ⟨ob6,vs6,hob6,hobc6,hd',hod6,by unfold fld2 at hf'; rw [hod6] at hf'; exact hf'⟩)
  refine store_ok (X:=suiteCx X a) (v:=.ref a) (I7.suite a) hN hi (.inl hk) rfl (fun s8 I8=>?_) (.inr hk)
  refine wpAny_mono (hsuite pins s8 _ _ _ I8 q) (fun f s9 h9=>?_) fun _ _ z=>z.elim
  cases f with
  | next=>
    obtain ⟨σ9,H9,I9,q9⟩:=h9
    have I9':=I9.unsuite I.ok
    obtain ⟨m,hn,hl⟩:=id I9'.loc
    exact wpAny_nameGoes_keeps hk hn hcls fun h10 v hn' hs'=>⟨_,_,I9'.forget hN hi hl hn' hs',q9⟩
  | brk=>obtain ⟨_,_,_,z⟩:=h9; exact z.elim
  | cont=>obtain ⟨_,_,_,z⟩:=h9; exact z.elim
  | ret u=>obtain ⟨_,_,_,_,_,z⟩:=h9; exact z.elim
end
end L2
namespace L2
open PySem PySem.Spec PyProof.Rows
section
variable {X : Cx}
theorem call_xG {CX : CXT} {f : Addr} {fd : FuncData} {k : Nat} {ps : List Str} {sp : Sp} {g : Str} {p cpos : Pos} {e : Expr} {es : List Expr} {ta : TA} {pins : List (Addr × Obj)} {σ : St} {H : Hp} {s : Shared} {E1 : Value -> Shared -> Prop} {Qv : VK} {Ex : XK}
    (F : FnOk X.prog X.w X.K X.mg X.base CX k f fd ps sp) (hr : Room k X.A) (hm : X.mg g = some (.ref f)) (hkp : PySem.W.keepIn X.K (.ref f) = true) (hb : Binds X.K fd ps []) (ha : PA X.nox (e :: es) ta) (hg : Gl X g)
    (I : Inv X pins σ H s) (h : ta σ H fun vs H1=>sp vs H1 Qv Ex) (hE : ∀ H1 s1 v s',Inv X pins σ H1 s1 -> CX X.stack H1 s1 Ex v s' -> E1 v s')
    (hdb : (g == ("__debug__" : Str)) = false) (he : starEach (e :: es) X.env = (false,eval e X.env) :: starEach es X.env) (hpl : (backTo cpos (starEach es X.env)).any (·.1) = false) :
    wpAny (model X.prog X.w) X.A (eval (.Call (.Name g p) (e :: es) [] cpos) X.env) (EP X pins σ Qv) E1 s:=by
  refine wpAny_Call_Name_kw (ld_glob I hg hm ?_ hdb)
  refine PySem.W.callWith_K (h₀:=X.base) I.ok.mod.kin hkp (wpAny_mono (ha cpos pins s σ H _ (I.wish _) h) (fun us s1 ⟨vs,H1,I1,r,q⟩=>⟨I1.unwish.kIn,?_⟩) fun _ _ z=>z.elim) he hpl
  have I1':=I1.unwish
  have hl : us.length = ps.length:=by rw [<- r.length]; exact F.len _ _ _ _ q
  have hb':=hb s1 us I1'.kIn (by rw [List.append_nil]; exact hl)
  rw [List.append_nil] at hb'
  refine wpAny_call (codeAny_mono (F.run X.A X.stack s1 H1 ⟨us,[]⟩ us vs Qv Ex hr I1'.env0 hb' r q) fun rr s' hq=>?_)
  cases rr with
  | error v=>exact hE H1 s1 v s' I1' hq
  | ok fl=>
    cases fl with
    | ret u=>exact I1'.after hq
    | next=>exact False.elim hq
    | brk=>exact False.elim hq
    | cont=>exact False.elim hq
end
section
variable {X : Cx}
theorem call_isxD (K : PySem.W.Frag) (hK : X.K = K:=by rfl) : CallR X (.builtin "isinstance") (fun xs H Q=>∃ (a C : Addr) (dv : Option Addr) (c : V) (cv : Value) (b : Bool),xs = [.ref a,c] /\ clsV c = some cv /\ H a = some (.ext (IsXD a C dv)) /\ XCls K C /\ PySem.W.kitOne K (.ref C) cv = some b /\ Q (.bl b) H):=by
  subst hK
  intro pins s σ H xs us Q I r h
  obtain ⟨a,C,dv,c,cv,b,rfl,hc,ha,F,e,q⟩:=h
  obtain ⟨u,w',rfl,r1,r2⟩:=vals2 r
  cases r1
  rw [clsV_rel hc r2]
  exact PySem.W.kia_one (kitx_exc F) I.kIn (I.hok a _ ha).1.x e (fun z=>nomatch z) fun tk=>⟨.bl b,H,I.tok tk,rfl,q⟩
end
end L2
namespace L2
open PySem PySem.Spec PyProof.Rows
section
variable {X : Cx}
end
end L2
namespace L2
open PySem PySem.Spec PyProof.Rows PySem.W PySem.Builtin.Getset_descriptor
section
variable {X : Cx} {pins : List (Addr × Obj)} {σ : St} {H H' : Hp} {s s' : Shared} {a C : Addr}
end
section
variable {X : Cx}
end
end L2
namespace L2
open PySem PySem.Spec PyProof.Rows PySem.SeqAt
theorem entry_unchain : entryFor table "proto.unchain" = some Builtin.«proto.unchain»:=entryFor_of_fast (by kernel_rfl)
def Alone (x : Addr) (h : Heap) : Prop:=∃ o vs,h.get? x = some o /\ o.data = .fields vs /\ vs[2]? = some Value.none
theorem Alone.at {x : Addr} {h h' : Heap} (a : Alone x h) (k : ∀ o,h.get? x = some o -> h'.get? x = some o) : Alone x h':=let ⟨o,vs,e,r⟩:=a; ⟨o,vs,k o e,r⟩
theorem IsXD.alone {x C : Addr} {dv : Option Addr} {h : Heap} (I : IsXD x C dv h) : Alone x h:=let ⟨ox,vs,a,_,_,b,c⟩:=I; ⟨ox,vs,a,b,c⟩
section
variable {prog : Program} {w : World} {A : Around} {E : Value -> Shared -> Prop} {s : Shared}
theorem raiseNew_alone {α : Type} {e x : Addr} {oe : Obj} {es : Array Value} {Q : α -> Shared -> Prop} (hh : A.handled = some (.ref x)) (hx : Alone x s.heap) (ne : x ≠ e) (he : s.heap.get? e = some oe) (hd : oe.data = .fields es) (h2 : 2 < es.size)
    (hE : E (.ref e) { s with heap:=s.heap.update e (Obj.mapFields (·.setIfInBounds 2 (.ref x))) }) : wpAny (model prog w) A (raiseNew (α:=α) (.ref e)) Q E s:=by
  obtain ⟨ox,vs,e1,e2,e3⟩:=hx
  unfold raiseNew
  refine wpAny_bind (wpAny_handled ?_)
  rw [hh]
  have hb : (Value.ref x != Value.ref e) = true:=by simp [ne]
  dsimp only
  rw [if_pos hb]
  refine wpAny_bind (wpAny_holding (wpAny_runValue (codeAny_builtin entry_unchain ?_)))
  unfold Builtin.«proto.unchain»
  refine wpAny_bind (wpAny_field e1 e2 e3 ?_)
  rw [if_pos (by decide)]
  refine wpAny_bind (wpAny_pure ?_)
  refine wpAny_pure ?_
  refine wpAny_bind (wpAny_setField he hd h2 ?_)
  exact wpAny_throw hE
theorem pyNext_endH {it l x : Addr} {i : Nat} {items} {Q : Option Value -> Shared -> Prop} (hh : A.handled = some (.ref x)) (hal : Alone x s.heap) (nx : x ≠ it)
    (hit : s.heap.IsListIter it l i) (hl : s.heap.IsList l items) (hx : items[i]? = none)
    (hQ : ∀ h',Heap.ExtBut it s.heap h' -> Q none { s with heap:=h' }) : wpAny (model prog w) A (pyNext (.ref it)) Q E s:=by
  obtain ⟨o,ho,hc,hd⟩:=id hit
  obtain ⟨ol,hol,_,nl,hdl⟩:=hl
  unfold pyNext
  refine wpAny_bind (wpAny_attempt (wpAny_callSpecial?_slot (name:=Str.ofString "__next__") hit.typeIs slot_listiter_next
    (wpAny_call_entry slot_listiter_next hit.typeIs entry_listiter_next ?_ (args_listiter_next _))))
  show wpAny _ _ (field (.ref it) 0 >>= _) _ _ s
  refine wpAny_bind (wpAny_field ho hd (x:=.ref l) rfl ?_)
  show wpAny _ _ (if (Value.ref l == Value.none) = true then _ else _) _ _ s
  rw [if_neg (show ¬ ((Value.ref l == Value.none) = true) from Bool.false_ne_true)]
  show wpAny _ _ (field (.ref it) 1 >>= _) _ _ s
  refine wpAny_bind (wpAny_field ho hd (x:=.int i 0) rfl ?_)
  show wpAny _ _ (seqItems? (.ref l) >>= _) _ _ s
  refine wpAny_bind (wpAny_seqItems hol hdl ?_)
  simp only [Int.toNat_natCast,hx]
  refine wpAny_bind (wpAny_rule (wpAny_bind (wpAny_setField ho hd (by simp) ?_)))
  show wpAny _ _ (newExc (.type "StopIteration") [] >>= _) _ _ _
  refine wpAny_bind ?_
  simp only [newExc,newTuple]
  refine wpAny_bind (wpAny_newObj_type ?_ (by size_fits))
  refine wpAny_bind (m:=firstArgMember _ _) (wpAny_of_eq (a:=Value.none) (by first | rfl | (simp only [firstArgMember]; rfl)) ?_)
  refine wpAny_newObj_type ?_ (by size_fits)
  obtain ⟨g,eg⟩ : ∃ g,(s.heap.update it (Obj.mapFields (·.setIfInBounds 0 Value.none))) = g:=⟨_,rfl⟩
  have kg : Heap.ExtBut it s.heap g:=eg ▸ (Heap.SameBut.update ..).extBut
  rw [eg]
  have lt : x < g.objs.size:=by
    obtain ⟨ox,_,e1,_⟩:=hal
    exact Heap.lt_size (kg x ox nx e1)
  refine raiseNew_alone (x:=x) (A:=A.in1) hh (hal.at fun o e=>Heap.get?_push_of_some _ (Heap.get?_push_of_some _ (kg x o nx e))) ?_ (Heap.get?_push_size _ rfl) rfl (by simp; omega) ?_
  · rw [Heap.size_push]; exact Nat.ne_of_lt (Nat.lt_succ_of_lt lt)
  refine wpAny_bind (wpAny_isInstance (T := "StopIteration") (b:=true) ⟨_,Heap.get?_update_self _ (Heap.get?_push_size _ rfl) rfl,rfl⟩ isSubtype_stop ?_)
  refine wpAny_pure (hQ _ fun b o nb e=>?_)
  have e2:=kg b o nb e
  rw [Heap.get?_update_other _ _ (by rw [Heap.size_push]; exact (Nat.ne_of_lt (Nat.lt_succ_of_lt (Heap.lt_size e2))).symm)]
  exact Heap.get?_push_of_some _ (Heap.get?_push_of_some _ e2)
theorem walksH {x : Addr} (hh : A.handled = some (.ref x)) (I ax : Addr) (hne : ax ≠ I) (nx : x ≠ I) (items : Array Value) :
    Walks prog w A I [I,ax,x] [I] items.size (fun i v=>items[i]? = some v) (fun i h=>(h.IsListIter I ax i /\ h.IsList ax items) /\ Alone x h) where
  sub:=fun b hb=>by simp at hb; simp [hb]
  frame:=fun _ _ _ st hk=>⟨⟨st.1.1.at fun o e=>hk I (by simp) o e,st.1.2.at fun o e=>hk ax (by simp) o e⟩,st.2.at fun o e=>hk x (by simp) o e⟩
  item:=fun i s Q E hi st hQ=>by
    refine wpAny_pyNext_list_item st.1.1 st.1.2 (x:=items[i]) (by simp [hi]) fun h' hit' hs'=>?_
    exact hQ _ h' s.toks (by simp [hi]) ⟨⟨hit',st.1.2.extBut hs'.extBut hne⟩,st.2.at fun o e=>hs'.extBut x o nx e⟩ fun b o hb e=>hs'.extBut b o (fun h=>hb (by simp [h])) e
  done:=fun s Q E st hQ=>pyNext_endH hh st.2 nx st.1.1 st.1.2 (by simp) fun h' he'=>hQ h' s.toks fun b o hb e=>he' b o (fun h=>hb (by simp [h])) e
  self:=fun _ _ _ _ st hQ=>wpAny_pyIter_listiter st.1.1 hQ
end
section
variable {X : Cx}
theorem call_anyH (e : Addr) (hh : X.A.handled = some (.ref e)) : CallR X (.builtin "any") (fun xs H Q=>∃ (a C : Addr) (dv : Option Addr) (bs : List Bool),xs = [.ref a] /\ SqK X.K false H a (bs.map V.bl) /\ H e = some (.ext (IsXD e C dv)) /\ Q (.bl (bs.any id)) H):=by
  intro pins s σ H xs us Q I r h
  obtain ⟨a,C,dv,bs,rfl,hq,he,q⟩:=h
  obtain ⟨u,rfl,r1⟩:=vals1 r
  cases r1
  obtain ⟨its,rv,p,_⟩:=I.seqK hq
  have ix : IsXD e C dv s.heap:=(I.hok e _ he).1
  obtain ⟨w1,w2,w3⟩:=iterObj_walk p
  have hl:=rv.length
  rw [List.length_map] at hl
  have al:=ix.alone
  have nx : e ≠ s.heap.objs.size:=by
    obtain ⟨ox,_,e1,_⟩:=al
    exact Nat.ne_of_lt (Heap.lt_size e1)
  refine call_any_walkS (pyIter_seq p ⟨_,_,_,_,_,_,_,fun j=>bs.getD j false,rfl,(walksH (A:=X.A.in1) hh _ a w1 nx its.toArray).toS,⟨w2,al.at fun o k=>Heap.get?_push_of_some _ k⟩,fun i v s' Q' E' hv hQ=>?_,fun s' m=>?_⟩)
  · rw [bools_get rv i v hv]
    exact wpAny_truthy_bool hQ
  · refine ⟨.bl (bs.any id),H,I.movedNew m,?_,q⟩
    show Value.bool _ = _
    rw [List.size_toArray,<- hl,range_any]
theorem countB {bs : List Bool} {its : List Value} (r : Vals (bs.map V.bl) its) : its.countP (isBoolOf true) = bs.countP id:=by
  induction bs generalizing its with
  | nil=>cases r; rfl
  | cons b bs ih=>
    cases r with
    | cons a r=>
      cases a
      rw [List.countP_cons,List.countP_cons,ih r]
      cases b <;> rfl
theorem eqB {bs : List Bool} {its : List Value} (r : Vals (bs.map V.bl) its) : ∀ y,y ∈ its -> ∀ (A : Around) (s : Shared),EqAt A s y (.bool true) (isBoolOf true y):=by
  induction bs generalizing its with
  | nil=>cases r; intro y hy; exact absurd hy (by simp)
  | cons b bs ih=>
    cases r with
    | cons a r=>
      cases a
      intro y hy A s
      rcases List.mem_cons.mp hy with e4 | hy
      · rw [e4]; exact EqAt.bool_bool b true
      · exact ih r y hy A s
def rCountB : V -> List V -> Hp -> VK -> Prop:=fun x vs H Q=>∃ (l : Addr) (bs : List Bool),x = .ref l /\ vs = [.bl true] /\ H l = some (.lst (bs.map V.bl)) /\ Q (.int (bs.countP id : Nat)) H
theorem mt_countB : MtR X "list.count" rCountB:=by
  intro pins s σ H x vs v us Q I rx rv h
  obtain ⟨l,bs,rfl,rfl,hH,q⟩:=h
  cases rx
  obtain ⟨u,rfl,ru⟩:=rv.one
  obtain rfl : u = Value.bool true:=ru
  obtain ⟨z,its,n,r,hl,e⟩:=I.lstM hH
  refine call_meets PySem.F.slot_list_count ⟨_,e,rfl⟩ PySem.F.entry_list_count (PySem.F.args_list_count_2 _ _) (list_countAt l its.toArray n none #[] (.bool true) (isBoolOf true)) ⟨e,fun y hy=>eqB r y (by simpa using hy) _ _,?_⟩
  rw [show its.toArray.toList = its from rfl,countB r]
  exact ⟨.int _,H,I.tok _,⟨_,rfl⟩,q⟩
def rIndexB : V -> List V -> Hp -> VK -> Prop:=fun x vs H Q=>∃ (l : Addr) (bs : List Bool) (j : Nat),x = .ref l /\ vs = [.bl true] /\ H l = some (.lst (bs.map V.bl)) /\ bs.length <= 1000 /\ bs[j]? = some true /\ (∀ m,m < j -> bs[m]? = some false) /\ Q (.int (j : Nat)) H
theorem mt_indexB : MtR X "list.index" rIndexB:=by
  intro pins s σ H x vs v us Q I rx rv h
  obtain ⟨l,bs,j,rfl,rfl,hH,hz,hj,hno,q⟩:=h
  cases rx
  obtain ⟨u,rfl,ru⟩:=rv.one
  obtain rfl : u = Value.bool true:=ru
  obtain ⟨z,its,n,r,hl,e⟩:=I.lstM hH
  rw [List.length_map] at hl
  have lj : j < bs.length:=(List.getElem?_eq_some_iff.mp hj).1
  have at' : ∀ m (hm : m < its.toArray.size) b,bs[m]? = some b -> its.toArray[m] = Value.bool b:=fun m hm b hb=>by
    obtain ⟨u,hu,ru⟩:=r.get (show (bs.map V.bl)[m]? = some (V.bl b) by rw [List.getElem?_map,hb]; rfl)
    obtain rfl : u = Value.bool b:=ru
    have : its.toArray[m]? = some (Value.bool b):=by simpa using hu
    exact (Array.getElem?_eq_some_iff.mp this).2
  refine call_meets PySem.F.slot_list_index ⟨_,e,rfl⟩ PySem.F.entry_list_index (PySem.F.args_list_index_2 _ _)
    (list_indexAt l its.toArray n none #[] (.bool true) (isBoolOf true) j (by rw [List.size_toArray,<- hl]; exact lj) (by omega) ?_ ?_) ⟨e,fun y hy=>eqB r y (by simpa using hy) _ _,⟨.int _,H,I.tok _,⟨_,rfl⟩,q⟩⟩
  · rw [at' j _ true hj]; rfl
  · intro m hm hlt
    rw [at' m hm false (hno m hlt)]; rfl
def tTryDa (sp : Sp) (ta : TA) (i : Nat) (ok : Value -> Addr -> Prop) (ts : Addr -> TS) (set : V -> St -> St) : TS:=fun D σ H=>ta σ H fun vs H1=>sp vs H1 (fun v H2=>D.nx (set v σ) H2)
  (fun c dv H2=>∃ C,c = .ref C /\ ok c C /\ ∀ a,H2 a = none -> ts a { nx:=fun σ3 H3=>D.nx (σ3.set i none) H3,rt:=fun _ _=>False } (σ.set i (some (.ref a))) (upd H2 a (.ext (IsXD a C dv))))
theorem ps_tryADa {f : Addr} {fd : FuncData} {k : Nat} {ps : List Str} {sp : Sp} {g cn n y : Str} {i j : Nat} {CC : Addr} {p py cpos epos np hpos pos : Pos} {e : Expr} {es : List Expr} {ta : TA} {b₀ : Stmt} {suite : List Stmt} {ts : Addr -> TS}
    (F : FnOk X.prog X.w X.K X.mg X.base (CXD X.prog X.w) k f fd ps sp) (hr : Room k X.A) (hm : X.mg g = some (.ref f)) (hkp : PySem.W.keepIn X.K (.ref f) = true) (hb : Binds X.K fd ps []) (ha : PA X.nox (e :: es) ta)
    (hN : X.N.Nodup) (hi : X.N[i]? = some n) (hk : X.env.scope.names.lookup n = some .local) (hj : X.N[j]? = some y) (hy : X.env.scope.names.lookup y = some .local) (hsuite : ∀ a,PSs (suiteCx X a) (b₀ :: suite) (ts a)) (hcm : X.mg cn = some (.ref CC))
    (hg : Gl X g:=by rfl) (hgc : Gl X cn:=by rfl) (hex : ∀ b,b ∉ X.ex:=by intro b z; exact absurd (show b ∈ ([] : List Addr) from z) (by simp)) (hst : X.stack = X.env :: X.outer:=by rfl) (hfr : X.env.frame = some X.env.locals:=by rfl)
    (hdb : (g == ("__debug__" : Str)) = false:=by decide) (hdbc : (cn == ("__debug__" : Str)) = false:=by decide) (he : starEach (e :: es) X.env = (false,eval e X.env) :: starEach es X.env:=by rfl) (hpl : (backTo cpos (starEach es X.env)).any (·.1) = false:=by rfl)
    (hsw : swapsWith (.Call (.Name g p) (e :: es) [] cpos) (some (.Name y py)) epos.line X.env = pure false:=by rfl) :
    PS X (.Try [.Assign [.Name y py] (.Call (.Name g p) (e :: es) [] cpos) epos] [.ExceptHandler (some (.Name cn np)) (some n) (b₀ :: suite) hpos] [] [] pos) (tTryDa sp ta i (fun c _=>PySem.W.exmOne X.K c (.ref CC) = some true) ts (fun v σ=>σ.set j (some v))):=by
  intro pins s σ H D I h
  refine wpAny_Try_except (wpAny_execs_cons (wpAny_Assign_Name (thn (call_xG F hr hm hkp hb ha hg I h ?_ hdb he hpl) fun v s1 ⟨x,H1,I1,r1,q1⟩=>store_ok I1 hN hj (.inl hy) r1 (fun s2 I2=>wpAny_execs_nil (wpAny_execs_nil ⟨_,H1,I2,q1⟩)) (.inr hy)) hsw))
  intro H1 s1 v s' I1 hx
  obtain ⟨a,cls,a0,dv,H',B,rfl,Fl,dd,C,rfl,hok,q⟩:=hx
  exact handleD hN hi hk hex hst hfr hgc hcm hok I1 Fl dd (hsuite a) (q a Fl.new.2) hdbc
end
end L2
namespace L2
open PySem PySem.Spec PyProof.Rows
section
variable {X : Cx}
def rCatT0 (K : PySem.W.Frag) : R2:=fun x y H Q=>∃ a b ys,x = .ref a /\ y = .ref b /\ SqT K H a [] /\ SqT K H b ys /\ Q (.ref b) H
theorem op_catT0 : OpR X (binaryOp .Add) (rCatT0 X.K):=by
  intro pins s σ H x y v u Q I rx ry h
  obtain ⟨a,b,ys,rfl,rfl,ha,hb,q⟩:=h
  cases rx
  cases ry
  obtain ⟨its,r1,p1,_⟩:=I.tuple ha
  obtain ⟨its2,r2,p2,_⟩:=I.tuple hb
  have e1 : its = []:=r1.nil_iff.mpr rfl
  subst e1
  obtain ⟨⟨cls,dd,data,sl⟩,ho,hc,n,hd⟩:=id p1
  obtain ⟨⟨cls2,dd2,data2,sl2⟩,ho2,hc2,n2,hd2⟩:=id p2
  simp only at hc hd hc2 hd2
  subst hc hd hc2 hd2
  exact concat_meets ⟨_,ho,rfl⟩ ⟨_,ho2,rfl⟩ noFill_tuple_add seq_tuple_add PySem.F.slot_tuple_add PySem.F.entry_tuple_add (PySem.F.args_tuple_add_2 _ _)
    (tuple_addW0 a b ([] : List Value).toArray its2.toArray n n2 dd dd2 sl sl2 (by simp)) ⟨ho,ho2,⟨.ref b,H,I,rfl,q⟩⟩
abbrev rCat2 (K : PySem.W.Frag) : R2:=fun x y H Q=>rCatT K x y H Q \/ rCatT0 K x y H Q
theorem op_cat2 : OpR X (binaryOp .Add) (rCat2 X.K):=op_catT.or op_catT0
end
end L2
namespace L2
open PySem PySem.Spec PyProof.Rows
def PTs (X : Cx) (ifs : List Expr) (t : TT) : Prop:=
  ∀ (pins : List (Addr × Obj)) (s : Shared) (σ : St) (H : Hp) (Q : Bool -> Hp -> Prop),Inv X pins σ H s -> t σ H Q ->
    wpAny (model X.prog X.w) X.A (forIn ifs true fun c r=>if r = true then do let ok <- isTrue c X.env (eval c X.env); pure (ForInStep.yield ok) else pure (ForInStep.yield r)) (TP X pins σ Q) X.xe s
def tTrue : TT:=fun _ H Q=>Q true H
theorem pts_nil {X : Cx} : PTs X [] tTrue:=fun _ _ _ H _ I h=>wpAny_tests_nil ⟨H,I,h⟩
theorem pts_one {X : Cx} {c : Expr} {t : TT} (h : PT X c t) : PTs X [c] t:=fun pins s σ H Q I q=>wpAny_tests_one (h pins s σ H Q I q)
def compBodyT (J : It) (cap : List (Option Nat)) (g : TG) (tt : TT) (te : TE) (σ : St) (H1 : Hp) (Q : VK) : Prop:=∀ acc,H1 acc = none ->
  ∃ W : Nat -> Nat -> List V -> St -> Hp -> Prop,(∃ m,W 0 m [] (capOf cap σ) (upd H1 acc (.lst []))) /\ ∀ i m ys σ' H',W i m ys σ' H' -> H' acc = some (.lst ys) /\
    ((J.stop i H' /\ Q (.ref acc) H') \/ (J.go i H' /\ ys.length < sizeLine /\ ∀ x H2,J.yld i H' x H2 -> g x σ' H2 fun σ3 H3=>tt σ3 H3 fun b H4=>
      if b = true then te σ3 H4 fun y H5=>H5 acc = some (.lst ys) /\ ∃ m',m' < m /\ W (i + 1) m' (ys ++ [y]) σ3 (upd H5 acc (.lst (ys ++ [y])))
      else ∃ m',m' < m /\ W (i + 1) m' ys σ3 H4))
def tCompT (cap : List (Option Nat)) (wi : TI) (g : TG) (tt : TT) (te : TE) : TE:=fun σ H Q=>wi σ H fun J H1=>compBodyT J cap g tt te σ H1 Q
section
variable {prog : Program} {w : World} {A : Around} {R : Result -> Shared -> Prop} {s : Shared}
theorem compLoop_anyT {elt target iter : Expr} {ifs : List Expr} {scope : Scope} {pos : Pos} {it acc : Value} {env : Env} (I : Nat -> Shared -> Prop)
    (turn : ∀ n s,I n s -> wpAny (model prog w) A (pyNext it) (fun r s₁=>match r with
      | none=>R (.ok .next) s₁
      | some v=>wpAny (model prog w) A (letOwnedTupleGo target it v) (fun _ s₁'=>wpAny (model prog w) A (assign target env v) (fun _ s₂=>
          wpAny (model prog w) A (forIn ifs true fun c r=>if r = true then do let ok <- isTrue c env (eval c env); pure (ForInStep.yield ok) else pure (ForInStep.yield r)) (fun ok s₃=>
            if ok = true then wpAny (model prog w) A (eval elt env) (fun x s₄=>
              wpAny (model prog w) A (call (.builtin "list.append") [acc,x]) (fun _ s₅=>∃ m,m < n /\ I m s₅) (fun _ _=>False) s₄) (fun _ _=>False) s₃
            else ∃ m,m < n /\ I m s₃) (fun _ _=>False) s₂)
          (fun _ _=>False) s₁') (fun _ _=>False) s₁) (fun _ _=>False) s)
    (n : Nat) (h : I n s) : codeAny (model prog w) A (.compLoop (.ListComp elt [⟨target,iter,ifs,0⟩] scope pos) 0 it acc env) R s:=by
  refine codeAny_loop rfl I (fun n s hI=>?_) n h
  show wpAny _ A ((compTurn (.ListComp elt [⟨target,iter,ifs,0⟩] scope pos) 0 it acc env).onRaise (fun x=>do noteFrame x env; theTreesLotGoes x)) _ _ s
  refine wpAny_noted ?_
  rw [compTurn_list]
  refine wpAny_bind (wpAny_standAt (wpAny_bind (wpAny_mono (turn n s hI) (fun r s₁ h₁=>?_) fun _ _ h'=>h'.elim)))
  cases r with
  | none=>exact wpAny_pure h₁
  | some v=>
    refine wpAny_bind (wpAny_mono h₁ (fun _ s₁' h₁'=>?_) fun _ _ h'=>h'.elim)
    refine wpAny_bind (wpAny_mono h₁' (fun _ s₂ h₂=>wpAny_bind (wpAny_mono h₂ (fun ok s₃ h₃=>?_) fun _ _ h'=>h'.elim)) fun _ _ h'=>h'.elim)
    cases ok with
    | true=>
      rw [if_pos rfl] at h₃
      exact wpAny_bind (wpAny_bind (wpAny_mono h₃ (fun x s₄ h₄=>wpAny_bind (wpAny_mono h₄ (fun _ s₅ h₅=>wpAny_pure (wpAny_pure ⟨rfl,h₅⟩)) fun _ _ h'=>h'.elim)) fun _ _ h'=>h'.elim))
    | false=>
      rw [if_neg Bool.false_ne_true] at h₃
      exact wpAny_bind (wpAny_pure (wpAny_pure ⟨rfl,h₃⟩))
end
section
variable {X : Cx}
theorem comp_coreT {elt tg iter : Expr} {ifs : List Expr} {tt : TT} {pos : Pos} {N N' : List Str} {sc scE : Scope} {cap : List (Option Nat)} {wi : TI} {g : TG} {te : TE} {use : Option (Value -> Sem Unit)} {QQ : Value -> Shared -> Prop} (hcalm : X.calm = true) (hi : PI X tg iter wi)
    (hg : ∀ cl C s0 H0 ex,PG (blkC X N' sc cl C s0 H0 ex) tg g) (he : ∀ cl C s0 H0 ex,PE (blkC X N' sc cl C s0 H0 ex) elt te) (htt : ∀ cl C s0 H0 ex,PTs (blkC X N' sc cl C s0 H0 ex) ifs tt)
    (hN : X.N = N) (hE : X.env.scope = scE) (hc : compOkC N N' sc scE cap = true) (hs : ∀ x,foldedSetIterable iter X.env x = pure x)
    {pins : List (Addr × Obj)} {s : Shared} {σ : St} {H : Hp} {Q : VK} (I : Inv X pins σ H s) (h : tCompT cap wi g tt te σ H Q)
    (fin : ∀ acc C H' s' m,Inv X pins σ H' s' -> s'.heap.Ns C m -> FpOk X pins H' C -> Q (.ref acc) H' -> compPost (model X.prog X.w) X.A X.xe use QQ (.ref acc) C (.ok .next) s') {pos' : Pos} :
    wpAny (model X.prog X.w) X.A (comprehension (.ListComp elt [⟨tg,iter,ifs,0⟩] sc pos) sc X.env pos' (newList []) false (eval iter X.env) use) QQ X.xe s:=by
  have ck:=compOkC.of hc
  obtain ⟨cl,hcl,c1,c2⟩:=closure_of (scope:=sc) (env:=X.env) fun x hx hf=>I.ok.has x.1 (by
    have:=ck.fre x hx hf
    rw [<- hE] at this
    exact this)
  refine wpAny_comprehension_free (use:=use) rfl hs hcl ck.kind ck.loc (thn (hi pins s σ H _ I h) fun v s1 h1=>thn h1 fun itv s2 h2=>?_)
  obtain ⟨it,fp,tn,J,H2,e,I2,T,st2,f2,hw⟩:=h2
  subst e
  have fsz : ∀ b ∈ fp,b < s2.heap.objs.size:=fun b hb=>by
    obtain ⟨o,e,_⟩:=T.obj _ _ st2 b hb
    exact Heap.lt_size e
  obtain ⟨W,⟨m0,w0⟩,turn⟩:=hw s2.heap.objs.size I2.fresh
  refine wpAny_newObj_type (wpAny_newEnvC ?_)
  dsimp only
  have I3 : Inv X pins σ (upd H2 s2.heap.objs.size (.lst [])) { s2 with heap:=s2.heap.push { cls:=.type "list",data:=.seq ([] : List Value).toArray } }:=
    I2.lnew (its:=[]) (ys:=[]) (t':=s2.toks) .nil (Nat.zero_le _)
  generalize hs3 : ({ s2 with heap:=s2.heap.push { cls:=.type "list",data:=.seq ([] : List Value).toArray } } : Shared) = s3 at I3
  have hh3 : s3.heap = s2.heap.push { cls:=.type "list",data:=.seq ([] : List Value).toArray }:=by rw [<- hs3]
  have hsz : s3.heap.objs.size = s2.heap.objs.size + 1:=by rw [hh3,Heap.size_push]
  have f3 : ∀ b ∈ fp,FpOk X pins (upd H2 s2.heap.objs.size (.lst [])) b:=fun b hb=>by
    obtain ⟨g0,g1⟩:=f2 b hb
    exact ⟨by rw [upd_ne (Nat.ne_of_lt (fsz b hb))]; exact g0,g1⟩
  have k3 : ∀ b o,s2.heap.get? b = some o -> s3.heap.get? b = some o:=fun b o e=>by rw [hh3]; exact Heap.get?_push_of_some _ e
  obtain ⟨cl',hcl'⟩ : ∃ cl',cellsFrom (s3.heap.objs.size + 1) sc.names cl = cl':=⟨_,rfl⟩
  obtain ⟨h₁,hh₁⟩ : ∃ h₁,pushCells (s3.heap.push { cls:=.type "dict",data:=.dict #[] }) sc.names = h₁:=⟨_,rfl⟩
  have k1 : ∀ b o,s3.heap.get? b = some o -> h₁.get? b = some o:=fun b o e=>by rw [<- hh₁]; exact pushCells_keeps _ _ b o (Heap.get?_push_of_some _ e)
  have c1' : ∀ x c,cl'.lookup x = some c -> cl.lookup x = some c \/ s3.heap.objs.size + 1 <= c:=fun x c e=>by
    rw [<- hcl'] at e
    have:=cellsFrom_look (sc.names) (s3.heap.push { cls:=.type "dict",data:=.dict #[] }) cl x c (by rw [Heap.size_push]; exact e)
    rcases this with z | ⟨_,z,_⟩
    · exact .inl z
    · rw [Heap.size_push] at z; exact .inr z
  have I4 : Inv (blkC X N' sc cl' s3.heap.objs.size s3 (upd H2 s2.heap.objs.size (.lst [])) fp) [] (capOf cap σ) (upd H2 s2.heap.objs.size (.lst [])) { s3 with heap:=h₁ }:=by
    rw [<- hcl',<- hh₁]
    exact blk_invC I3 hN hE ck c1 c2 f3 (fun b hb=>Nat.lt_of_lt_of_le (fsz b hb) (by rw [hsz]; exact Nat.le_succ _))
  have st4 : tn 0 h₁:=T.keep _ _ _ st2 fun b hb o e=>k1 b o (k3 b o e)
  generalize hX' : blkC X N' sc cl' s3.heap.objs.size s3 (upd H2 s2.heap.objs.size (.lst [])) fp = X' at I4
  have hxe : X'.xe = fun _ _=>False:=by rw [<- hX']; rfl
  have hprog : X'.prog = X.prog:=by rw [<- hX']; rfl
  have hww : X'.w = X.w:=by rw [<- hX']; rfl
  have hKK : X'.K = X.K:=by rw [<- hX']; rfl
  have hAA : X'.A = X.A:=by rw [<- hX']; rfl
  have hcc : X'.calm = true:=by rw [<- hX']; exact hcalm
  have henv : X'.env = compEnvC sc cl' s3.heap.objs.size X.env:=by rw [<- hX']; rfl
  have hloc : X'.env.locals = s3.heap.objs.size:=by rw [henv]; rfl
  have hg' : PG X' tg g:=by rw [<- hX']; exact hg _ _ _ _ _
  have he' : PE X' elt te:=by rw [<- hX']; exact he _ _ _ _ _
  have htt' : PTs X' ifs tt:=by rw [<- hX']; exact htt _ _ _ _ _
  have stat : ∀ {H' : Hp},(∀ b ∈ fp,H' b = none) -> ∀ b ∈ fp,FpOk X' [] H' b:=fun {H'} hn b hb=>by
    obtain ⟨_,g1,g2,g3,g4,g5⟩:=f3 b hb
    refine ⟨hn b hb,by rw [hloc,hsz]; exact Nat.ne_of_lt (Nat.lt_succ_of_lt (fsz b hb)),?_,?_,?_,fun p hp=>?_⟩
    · rw [<- hX']
      intro z
      rcases List.mem_cons.mp (I3.stkSub b z) with e | z
      · exact g1 e
      · exact g2 z
    · left
      rw [<- hX']
      exact hb
    · intro x c e
      rw [henv] at e
      rcases c1' x c e with z | z
      · exact g4 x c (c1 x c z)
      · exact fun q=>absurd (Nat.lt_of_lt_of_le (fsz b hb) (Nat.le_trans (Nat.le_trans (Nat.le_succ _) (hsz ▸ Nat.le_succ _)) (q ▸ z))) (Nat.lt_irrefl _)
    · rw [<- hX'] at hp
      cases hp
  have fin' : ∀ {σ' : St} {H' : Hp} {s' : Shared},Inv X' [] σ' H' s' -> Q (.ref s2.heap.objs.size) H' -> compPost (model X.prog X.w) X.A X.xe use QQ (.ref s2.heap.objs.size) s3.heap.objs.size (.ok .next) s':=fun {σ' H' s'} J q=>by
    obtain ⟨mm,hmm,_⟩:=J.loc
    rw [hloc] at hmm
    have hfree : H' s3.heap.objs.size = none:=by have:=J.free; rw [hloc] at this; exact this
    have hok:=J.hok
    rw [hprog,hww] at hok
    have u1 : Un (frs X.stack) fp (upd H2 s2.heap.objs.size (.lst [])) H' s3.heap s'.heap:=by
      have:=J.base
      rw [<- hX'] at this
      exact this
    have hos : s'.os = s3.os:=by have:=J.os; rw [<- hX'] at this; exact this
    refine fin _ _ H' s' mm (I3.call' (s':=s') hos u1 hok J.bare fun b hb=>?_) hmm (I3.fpOk (Nat.le_refl _) hfree) q
    obtain ⟨_,g1,g2,g3,g4,g5⟩:=f3 b hb
    exact ⟨g3,g1,g4,g5⟩
  have loop : codeAny (model X.prog X.w) X.A (.compLoop (.ListComp elt [⟨tg,iter,ifs,0⟩] sc pos) 0 (.ref it) (.ref s2.heap.objs.size) X'.env)
      (compPost (model X.prog X.w) X.A X.xe use QQ (.ref s2.heap.objs.size) s3.heap.objs.size) { s3 with heap:=h₁ }:=by
    refine compLoop_anyT (fun n s'=>∃ i ys σ' H',Inv X' [] σ' H' s' /\ tn i s'.heap /\ (∀ b ∈ fp,H' b = none) /\ W i n ys σ' H') ?_ m0 ⟨0,[],_,_,I4,st4,fun b hb=>(f3 b hb).1,w0⟩
    rintro n s5 ⟨i,ys,σ5,H5,I5,st5,fr5,w5⟩
    obtain ⟨hacc,q⟩:=turn i n ys σ5 H5 w5
    rcases q with ⟨stop,q⟩ | ⟨go,hlen,step⟩
    · refine thn (hAA ▸ T.done X' hprog hww hKK hcc i [] s5 σ5 H5 _ I5 (stat fr5) st5 stop) fun r s6 ⟨hr,I6⟩=>?_
      subst hr
      exact fin' I6 q
    · refine thn (hAA ▸ T.item X' hprog hww hKK hcc i [] s5 σ5 H5 _ I5 (stat fr5) st5 go) fun r s6 ⟨u,hr,h6⟩=>?_
      subst hr
      refine thn h6 fun _ s7 ⟨x,H7,I7,r7,y7,st7,fr7⟩=>?_
      have I7':=I7.pinned (stat fr7) (T.obj _ _ st7)
      have g7:=hg' _ s7 σ5 H7 x u _ I7' r7 (step x H7 y7)
      rw [hprog,hww,hAA,hxe] at g7
      refine thn g7 fun _ s8 ⟨σ8,H8,I8,q8⟩=>?_
      have t8:=htt' _ s8 σ8 H8 _ I8 q8
      rw [hprog,hww,hAA,hxe] at t8
      refine thn t8 fun okb s8t ⟨H8t,I8t,q8t⟩=>?_
      cases okb with
      | false=>
        rw [if_neg Bool.false_ne_true] at q8t ⊢
        obtain ⟨m',hm',w9⟩:=q8t
        refine ⟨m',hm',i + 1,_,σ8,_,I8t.unpinned,T.keep _ _ _ st7 fun b hb o eo=>(I8t.pin (b,o) (List.mem_append_right _ (List.mem_append_right _ (mem_pinsAt hb eo)))).1,fun b hb=>?_,w9⟩
        obtain ⟨o,eo,d⟩:=T.obj _ _ st7 b hb
        exact (I8t.pin (b,o) (List.mem_append_right _ (List.mem_append_right _ (mem_pinsAt hb eo)))).2.1
      | true=>
      rw [if_pos rfl] at q8t ⊢
      have g8:=he' _ s8t σ8 H8t _ I8t q8t
      rw [hprog,hww,hAA,hxe] at g8
      refine thn g8 fun y s9 ⟨yv,H9,I9,r9,a9,m',hm',w9⟩=>?_
      obtain ⟨z,its,nn,rr,hl,e⟩:=I9.lstM a9
      refine call_meets F.slot_list_append ⟨_,e,rfl⟩ F.entry_list_append (F.args_list_append_2 _ _) (PySem.list_append _ its.toArray nn y (by rw [List.size_toArray]; omega)) ⟨e,?_⟩
      have I10 : Inv X' ([] ++ pinsAt fp s7.heap) σ8 (upd H9 s2.heap.objs.size (.lst (ys ++ [yv]))) { s9 with heap:=s9.heap.update s2.heap.objs.size (Obj.mapSeq fun a=>a.push y) }:=
        I9.lset (t':=s9.toks) (its':=its ++ [y]) a9 e (by simp) (rr.append (.cons r9 .nil)) (by rw [List.length_append,List.length_singleton]; omega)
      refine ⟨m',hm',i + 1,_,σ8,_,I10.unpinned,T.keep _ _ _ st7 fun b hb o eo=>(I10.pin (b,o) (List.mem_append_right _ (List.mem_append_right _ (mem_pinsAt hb eo)))).1,fun b hb=>?_,w9⟩
      obtain ⟨o,eo,d⟩:=T.obj _ _ st7 b hb
      exact (I10.pin (b,o) (List.mem_append_right _ (List.mem_append_right _ (mem_pinsAt hb eo)))).2.1
  rw [henv] at loop
  have goal:=codeAny_compStart_list (rest:=[]) (ifs:=ifs) loop (T.self X.A 0 _ _ _ st4 loop)
  subst hs3
  rw [<- hcl',<- hh₁] at goal
  exact goal
theorem pe_compT {elt tg iter : Expr} {ifs : List Expr} {tt : TT} {pos : Pos} {N N' : List Str} {sc scE : Scope} {cap : List (Option Nat)} {wi : TI} {g : TG} {te : TE} (hcalm : X.calm = true) (hi : PI X tg iter wi)
    (hg : ∀ cl C s0 H0 ex,PG (blkC X N' sc cl C s0 H0 ex) tg g) (he : ∀ cl C s0 H0 ex,PE (blkC X N' sc cl C s0 H0 ex) elt te) (htt : ∀ cl C s0 H0 ex,PTs (blkC X N' sc cl C s0 H0 ex) ifs tt)
    (hN : X.N = N:=by rfl) (hE : X.env.scope = scE:=by rfl) (hc : compOkC N N' sc scE cap = true:=by decide +kernel) (hs : ∀ x,foldedSetIterable iter X.env x = pure x:=by intro _; rfl) :
    PE X (.ListComp elt [⟨tg,iter,ifs,0⟩] sc pos) (tCompT cap wi g tt te):=by
  intro pins s σ H Q I h
  rw [eval_ListComp]
  refine comp_coreT (use:=none) hcalm hi hg he htt hN hE hc hs I h fun acc C H' s' m I' hm hf q=>⟨m,hm,fun h' hs'=>?_⟩
  obtain ⟨f0,f1,f2,f3,f4,f5⟩:=hf
  exact ⟨.ref acc,H',I'.turned (t':=s'.toks) (fun b o hb e=>(hs'.2 b hb).trans e) f0 f1 f3 f4 f5,rfl,q⟩
theorem ps_compT {ifs : List Expr} {tt : TT} {i : Nat} {x : Str} {px spos : Pos} {elt tg iter : Expr} {pos : Pos} {N N' : List Str} {sc scE : Scope} {cap : List (Option Nat)} {wi : TI} {g : TG} {te : TE} (hnd : X.N.Nodup) (hix : X.N[i]? = some x) (hx : Loc X.env.scope x) (hcalm : X.calm = true) (hi : PI X tg iter wi)
    (hg : ∀ cl C s0 H0 ex,PG (blkC X N' sc cl C s0 H0 ex) tg g) (he : ∀ cl C s0 H0 ex,PE (blkC X N' sc cl C s0 H0 ex) elt te) (htt : ∀ cl C s0 H0 ex,PTs (blkC X N' sc cl C s0 H0 ex) ifs tt)
    (hsw : swapsWith (.ListComp elt [⟨tg,iter,ifs,0⟩] sc pos) (some (.Name x px)) spos.line X.env = pure true:=by rfl)
    (hN : X.N = N:=by rfl) (hE : X.env.scope = scE:=by rfl) (hc : compOkC N N' sc scE cap = true:=by decide +kernel) (hs : ∀ x,foldedSetIterable iter X.env x = pure x:=by intro _; rfl)
    (hf : X.fn x = true \/ X.env.scope.names.lookup x = some .local:=by first | exact .inl rfl | exact .inr rfl | assumption) :
    PS X (.Assign [.Name x px] (.ListComp elt [⟨tg,iter,ifs,0⟩] sc pos) spos) (tAsg (tCompT cap wi g tt te) (gName i)):=by
  intro pins s σ H D I h
  rw [exec_Assign_Name_used _ _ _ _ hsw]
  refine wpAny_bind (wpAny_standAt (wpAny_bind ?_))
  show wpAny _ _ (do let _ <- comprehension (.ListComp elt [⟨tg,iter,ifs,0⟩] sc pos) sc X.env _ (newList []) false (eval iter X.env) (some (assign (.Name x px) X.env))) _ _ s
  refine wpAny_bind (wpAny_mono (comp_coreT (use:=some (assign (.Name x px) X.env)) (QQ:=fun _ s'=>SP X pins D .next s') hcalm hi hg he htt hN hE hc hs I h ?_) (fun _ s' hq=>wpAny_pure (wpAny_pure hq)) fun _ _ e=>e)
  intro acc C H' s' m I' hm hfp q
  obtain ⟨f0,f1,f2,f3,f4,f5⟩:=hfp
  show wpAny _ _ (assign (.Name x px) X.env (.ref acc)) _ _ _
  refine wpAny_assign_Name (store_ok2 I' hnd hix hx (v:=.ref acc) rfl (fun s2 I2 ⟨a,sb,ha⟩=>⟨m,?_,fun h' hs'=>?_⟩) hf)
  · refine hm.sameBut sb fun z=>?_
    rcases ha with ha | ha
    · exact f1 (z.trans ha)
    · exact f4 x a ha z.symm
  · exact ⟨_,H',I2.turned (t':=s2.toks) (fun b o hb e=>(hs'.2 b hb).trans e) f0 f1 f3 f4 f5,q⟩
end
end L2
namespace L2
open PySem PySem.Spec PyProof.Rows
section
variable {X : Cx} {e e3 : Expr} {te t3 : TE} {pos p2 : Pos}
end
end L2
namespace L2
open PySem PySem.Spec PyProof.Rows
section
variable {X : Cx} {a : Expr} {ta : TA} {p p' pos pos' : Pos}
end
end L2
namespace L2
open PySem PySem.Spec PyProof.Rows
def metN (ns : List Int) : List Int:=firstMet (fun i=>ns.getD i 0) ns.length
section
variable {X : Cx}
end
end L2
namespace L2
open PySem PySem.Spec PyProof.Rows
section
variable {κ : Type} [DecidableEq κ]
def valV (kvs : List (κ × V)) (k : κ) : Option V:=(kvs.find? fun kv=>decide (kv.1 = k)).map (·.2)
def putK (kvs : List (κ × V)) (k : κ) (v : V) : List (κ × V):=
  if (kvs.any fun kv=>decide (kv.1 = k)) = true then kvs.map (fun kv=>if kv.1 = k then (kv.1,v) else kv) else kvs ++ [(k,v)]
def dropK (kvs : List (κ × V)) (k : κ) : List (κ × V):=kvs.filter fun kv=>decide (kv.1 ≠ k)
theorem valV_pos {p : κ × V} {r : List (κ × V)} {k : κ} (e : p.1 = k) : valV (p :: r) k = some p.2:=by simp [valV,List.find?_cons,e]
theorem valV_neg {p : κ × V} {r : List (κ × V)} {k : κ} (e : ¬ p.1 = k) : valV (p :: r) k = valV r k:=by simp [valV,List.find?_cons,e]
theorem valV_any (k : κ) : ∀ kvs : List (κ × V),(kvs.any fun kv=>decide (kv.1 = k)) = (valV kvs k).isSome
  | []=>rfl
  | p :: r=>by
    rw [List.any_cons]
    by_cases e : p.1 = k
    · simp only [valV_pos e,decide_eq_true e,Bool.true_or,Option.isSome_some]
    · rw [valV_neg e,decide_eq_false e,Bool.false_or]; exact valV_any k r
end
abbrev KT (H : Hp) : List (List Key × V) -> List (List Key × Addr × Value) -> Prop:=Paired fun p q=>p.1 = q.1 /\ H q.2.1 = some (.tup (p.1.map kV)) /\ RelV p.2 q.2.2
section
variable {P : Program} {w : World} {H : Hp} {h : Heap} {a : Addr}
end
def DGet (H : Hp) (a : Addr) (y : V) (r : Option V) : Prop:=
  (∃ kvs k,Rd H a (.dK kvs) /\ y = kV k /\ r = valV kvs k) \/ ∃ kvs k b,Rd H a (.dT kvs) /\ y = .ref b /\ H b = some (.tup (k.map kV)) /\ r = valV kvs k
def DPut (H : Hp) (a : Addr) (y v : V) (H' : Hp) : Prop:=
  (∃ kvs k,H a = some (.dK kvs) /\ y = kV k /\ kvs.length < sizeLine /\ H' = upd H a (.dK (putK kvs k v))) \/
  ∃ kvs k b,H a = some (.dT kvs) /\ y = .ref b /\ H b = some (.tup (k.map kV)) /\ kvs.length < sizeLine /\ H' = upd H a (.dT (putK kvs k v))
section
variable {X : Cx} {pins : List (Addr × Obj)} {σ : St} {H : Hp} {s : Shared} {a : Addr} {y v : V} {u r : Value} {o : Option V} {A : Around} {E : Value -> Shared -> Prop}
end
section
variable {X : Cx} {pins : List (Addr × Obj)} {σ : St} {H : Hp} {s : Shared} {a : Addr} {kvs : List (Key × V)} {k : Key} {u : Value} {A : Around} {E : Value -> Shared -> Prop}
end
section
variable {X : Cx} {o i e value : Expr} {pos pos' tpos : Pos} {td ty tv : TE}
end
section
variable {X : Cx} {pos : Pos}
end
structure M1 (X : Cx) (o : Expr) (m : Str) (apos : Pos) (e : Expr) (cpos : Pos) : Prop where
  base : attributeBase o m X.env (eval o X.env) = eval o X.env
  few : ((backTo cpos (starEach [e] X.env)).all (fun x=>!x.1) && (backToKw cpos (keywordEach [] X.env)).all (fun x=>x.1.isSome)
    && decide (([e] : List Expr).length + ([] : List Keyword).length + (if ([] : List Keyword).isEmpty then 0 else 1) < 30)) = true
  line : (apos.endLine == cpos.line) = true
  trees : backTo cpos (starEach [e] X.env) = [(false,eval e X.env)]
section
variable {X : Cx} {pins : List (Addr × Obj)} {σ : St} {H : Hp} {s : Shared} {a : Addr} {y d : V} {u r : Value} {o : Option V} {A : Around} {E : Value -> Shared -> Prop}
end
section
variable {X : Cx} {o e f : Expr} {apos cpos : Pos} {td ty tx : TE}
end
section
variable {X : Cx} {pins : List (Addr × Obj)} {σ : St} {H : Hp} {s : Shared} {a : Addr} {kvs : List (Key × V)} {A : Around} {E : Value -> Shared -> Prop}
end
section
variable {X : Cx} {pins : List (Addr × Obj)} {σ : St} {H : Hp} {s : Shared} {a : Addr} {y : V} {u : Value} {A : Around} {E : Value -> Shared -> Prop}
end
section
variable {X : Cx}
end
end L2
namespace L2
open PySem PySem.Spec PyProof.Rows
open AutoSeq1 (wpAny_loadPart')
section
variable {prog : Program} {w : World} {A : Around} {E : Value -> Shared -> Prop} {s : Shared}
end
section
variable {prog : Program} {w : World} {A : Around} {E : Value -> Shared -> Prop} {s : Shared}
end
section
variable {X : Cx} {a : Expr} {ta : TA} {p p' pos pos' : Pos}
end
end L2
namespace L2
open PySem PySem.Spec PyProof.Rows
section
variable {prog : Program} {w : World} {A : Around} {E : Value -> Shared -> Prop} {s : Shared}
end
section
variable {X : Cx} {e e3 : Expr} {te t3 : TE} {pos p2 : Pos}
end
end L2
namespace Sm
open PySem PySem.Spec L2
inductive PV where
  | non | bl (b : Bool) | int (i : Int) | str (x : Str) | tup (xs : List PV) | lst (xs : List PV) | fro (xs : List PV) | ref (i : Nat) | dic
inductive Cell where
  | lst (xs : List PV)
abbrev Store:=List Cell
structure Exc where
  cls : Str
  fs : Option (Str × PV):=none
inductive Res (α : Type) where
  | ok (a : α) (st : Store) | exc (x : Exc) (st : Store) | stuck
abbrev Gam:=List (Option PV)
abbrev ME:=Gam -> Store -> Res PV
structure Tk where
  tr : List Addr
  hid : List Addr
instance : Membership Addr Tk:=⟨fun t a=>a ∈ t.tr \/ a ∈ t.hid⟩
def Tk.nil : Tk:=⟨[],[]⟩
theorem Tk.not_nil (a : Addr) : a ∉ Tk.nil:=fun z=>by rcases z with z | z <;> cases z
def Tk.add (t : Tk) (p : Addr) : Tk:=⟨t.tr ++ [p],t.hid⟩
def Tk.hide (t : Tk) (p : Addr) : Tk:=⟨t.tr,p :: t.hid⟩
mutual
def Rep (H : Hp) (ρ : Tk) : PV -> V -> Prop
  | .non,v=>v = .non
  | .bl b,v=>v = .bl b
  | .int i,v=>v = .int i
  | .str x,v=>v = .str x
  | .tup ps,v=>∃ a vs,v = .ref a /\ H a = some (.tup vs) /\ a ∉ ρ /\ RepL H ρ ps vs
  | .lst ps,v=>∃ a vs,v = .ref a /\ H a = some (.lst vs) /\ a ∉ ρ /\ RepL H ρ ps vs
  | .fro ps,v=>∃ a vs,v = .ref a /\ Rd H a (.lst vs) /\ a ∉ ρ /\ RepL H ρ ps vs
  | .ref i,v=>∃ a,ρ.tr[i]? = some a /\ v = .ref a
  | .dic,v=>∃ a,v = .ref a /\ H a = some (.dK []) /\ a ∉ ρ
def RepL (H : Hp) (ρ : Tk) : List PV -> List V -> Prop
  | [],vs=>vs = []
  | p :: ps,vs=>∃ v r,vs = v :: r /\ Rep H ρ p v /\ RepL H ρ ps r
end
structure Ext (H : Hp) (ρ : Tk) (H' : Hp) (ρ' : Tk) : Prop where
  pre : ρ.tr <+: ρ'.tr
  hidM : ∀ a,a ∈ ρ.hid -> a ∈ ρ'.hid
  hidN : ∀ a,a ∈ ρ'.hid -> a ∈ ρ.hid \/ H a = none
  keep : ∀ a o,H a = some o -> a ∉ ρ.tr -> H' a = some o
  new : ∀ a,a ∈ ρ'.tr -> a ∈ ρ.tr \/ H a = none
  old : ∀ a o,H a = some o -> ∃ o',H' a = some o'
theorem Ext.refl (H : Hp) (ρ : Tk) : Ext H ρ H ρ:=⟨List.prefix_refl _,fun _ h=>h,fun _ h=>.inl h,fun _ _ h _=>h,fun _ h=>.inl h,fun _ o h=>⟨o,h⟩⟩
theorem Ext.trans {H H1 H2 : Hp} {ρ ρ1 ρ2 : Tk} (a : Ext H ρ H1 ρ1) (b : Ext H1 ρ1 H2 ρ2) : Ext H ρ H2 ρ2 where
  pre:=a.pre.trans b.pre
  hidM:=fun x h=>b.hidM x (a.hidM x h)
  hidN:=fun x h=>by
    rcases b.hidN x h with z | z
    · exact a.hidN x z
    · right
      cases q : H x with
      | none=>rfl
      | some o=>
        obtain ⟨o',e⟩:=a.old x o q
        rw [e] at z; cases z
  keep:=fun x o h n=>b.keep x o (a.keep x o h n) fun z=>by
    rcases a.new x z with z | z
    · exact n z
    · rw [h] at z; cases z
  new:=fun x h=>by
    rcases b.new x h with z | z
    · exact a.new x z
    · right
      cases q : H x with
      | none=>rfl
      | some o=>
        obtain ⟨o',e⟩:=a.old x o q
        rw [e] at z; cases z
  old:=fun x o h=>by
    obtain ⟨o',e⟩:=a.old x o h
    exact b.old x o' e
theorem Ext.add {H : Hp} {ρ : Tk} {p : Addr} {o : HO} (h : H p = none) : Ext H ρ (upd H p o) ρ where
  pre:=List.prefix_refl _
  hidM:=fun _ h=>h
  hidN:=fun _ h=>.inl h
  keep:=fun a u e _=>by rw [upd_ne (ne_of_none e h)]; exact e
  new:=fun a e=>.inl e
  old:=fun a u e=>⟨u,by rw [upd_ne (ne_of_none e h)]; exact e⟩
theorem Ext.same {H H' : Hp} {ρ : Tk} (h : Same H H') : Ext H ρ H' ρ:=⟨List.prefix_refl _,fun _ h=>h,fun _ h=>.inl h,fun a o e _=>h a o e,fun _ e=>.inl e,fun a o e=>⟨o,h a o e⟩⟩
section
variable {H H' : Hp} {ρ ρ' : Tk}
theorem fresh_not {a : Addr} {o : HO} (x : Ext H ρ H' ρ') (h : H a = some o) (n : a ∉ ρ) : a ∉ ρ':=fun z=>by
  rcases z with z | z
  · rcases x.new a z with z | z
    · exact n (.inl z)
    · rw [h] at z; cases z
  · rcases x.hidN a z with z | z
    · exact n (.inr z)
    · rw [h] at z; cases z
theorem Ext.kp {a : Addr} {o : HO} (x : Ext H ρ H' ρ') (h : H a = some o) (n : a ∉ ρ) : H' a = some o:=x.keep a o h fun z=>n (.inl z)
mutual
theorem Rep.ext (x : Ext H ρ H' ρ') : ∀ {p : PV} {v : V},Rep H ρ p v -> Rep H' ρ' p v
  | .non,_,h=>h
  | .bl _,_,h=>h
  | .int _,_,h=>h
  | .str _,_,h=>h
  | .tup ps,v,h=>by
    obtain ⟨a,vs,e,s,n,r⟩:=h
    exact ⟨a,vs,e,x.kp s n,fresh_not x s n,RepL.ext x r⟩
  | .lst ps,v,h=>by
    obtain ⟨a,vs,e,s,n,r⟩:=h
    exact ⟨a,vs,e,x.kp s n,fresh_not x s n,RepL.ext x r⟩
  | .fro ps,v,h=>by
    obtain ⟨a,vs,e,s,n,r⟩:=h
    rcases s with s | ⟨o,s⟩
    · exact ⟨a,vs,e,.inl (x.kp s n),fresh_not x s n,RepL.ext x r⟩
    · exact ⟨a,vs,e,.inr ⟨o,x.kp s n⟩,fresh_not x s n,RepL.ext x r⟩
  | .ref i,v,h=>by
    obtain ⟨a,e,rfl⟩:=h
    obtain ⟨t,et⟩:=x.pre
    refine ⟨a,?_,rfl⟩
    rw [<- et,List.getElem?_append_left (List.getElem?_eq_some_iff.mp e).1]
    exact e
  | .dic,v,h=>by
    obtain ⟨a,e,s,n⟩:=h
    exact ⟨a,e,x.kp s n,fresh_not x s n⟩
theorem RepL.ext (x : Ext H ρ H' ρ') : ∀ {ps : List PV} {vs : List V},RepL H ρ ps vs -> RepL H' ρ' ps vs
  | [],_,h=>h
  | p :: ps,vs,h=>by
    obtain ⟨v,r,e,h1,h2⟩:=h
    exact ⟨v,r,e,Rep.ext x h1,RepL.ext x h2⟩
end
mutual
theorem Rep.hide {a : Addr} {o : HO} (h : H a = none) : ∀ {p : PV} {v : V},Rep H ρ p v -> Rep (upd H a o) (ρ.hide a) p v
  | .non,_,r=>r
  | .bl _,_,r=>r
  | .int _,_,r=>r
  | .str _,_,r=>r
  | .tup ps,v,⟨b,vs,e,s,n,r⟩=>⟨b,vs,e,by rw [upd_ne (ne_of_none s h)]; exact s,fun z=>by
      rcases z with z | z
      · exact n (.inl z)
      · rcases List.mem_cons.mp z with z | z
        · exact ne_of_none s h z
        · exact n (.inr z),RepL.hide h r⟩
  | .lst ps,v,⟨b,vs,e,s,n,r⟩=>⟨b,vs,e,by rw [upd_ne (ne_of_none s h)]; exact s,fun z=>by
      rcases z with z | z
      · exact n (.inl z)
      · rcases List.mem_cons.mp z with z | z
        · exact ne_of_none s h z
        · exact n (.inr z),RepL.hide h r⟩
  | .fro ps,v,⟨b,vs,e,s,n,r⟩=>by
      have ne : b ≠ a:=by
        rcases s with s | ⟨_,s⟩
        · exact ne_of_none s h
        · exact ne_of_none s h
      refine ⟨b,vs,e,?_,fun z=>?_,RepL.hide h r⟩
      · rcases s with s | ⟨u,s⟩
        · exact .inl (by rw [upd_ne ne]; exact s)
        · exact .inr ⟨u,by rw [upd_ne ne]; exact s⟩
      · rcases z with z | z
        · exact n (.inl z)
        · rcases List.mem_cons.mp z with z | z
          · exact ne z
          · exact n (.inr z)
  | .ref i,v,r=>r
  | .dic,v,⟨b,e,s,n⟩=>⟨b,e,by rw [upd_ne (ne_of_none s h)]; exact s,fun z=>by
      rcases z with z | z
      · exact n (.inl z)
      · rcases List.mem_cons.mp z with z | z
        · exact ne_of_none s h z
        · exact n (.inr z)⟩
theorem RepL.hide {a : Addr} {o : HO} (h : H a = none) : ∀ {ps : List PV} {vs : List V},RepL H ρ ps vs -> RepL (upd H a o) (ρ.hide a) ps vs
  | [],_,r=>r
  | p :: ps,_,⟨v,t,e,r1,r2⟩=>⟨v,t,e,Rep.hide h r1,RepL.hide h r2⟩
end
mutual
theorem Rep.rehide {a : Addr} {o : HO} (h : a ∈ ρ.hid) : ∀ {p : PV} {v : V},Rep H ρ p v -> Rep (upd H a o) ρ p v
  | .non,_,r=>r
  | .bl _,_,r=>r
  | .int _,_,r=>r
  | .str _,_,r=>r
  | .tup ps,v,⟨b,vs,e,s,n,r⟩=>⟨b,vs,e,by rw [upd_ne (show b ≠ a from fun z=>n (.inr (by rw [z]; exact h)))]; exact s,n,RepL.rehide h r⟩
  | .lst ps,v,⟨b,vs,e,s,n,r⟩=>⟨b,vs,e,by rw [upd_ne (show b ≠ a from fun z=>n (.inr (by rw [z]; exact h)))]; exact s,n,RepL.rehide h r⟩
  | .fro ps,v,⟨b,vs,e,s,n,r⟩=>by
      have ne : b ≠ a:=fun z=>n (.inr (by rw [z]; exact h))
      refine ⟨b,vs,e,?_,n,RepL.rehide h r⟩
      rcases s with s | ⟨u,s⟩
      · exact .inl (by rw [upd_ne ne]; exact s)
      · exact .inr ⟨u,by rw [upd_ne ne]; exact s⟩
  | .ref i,v,r=>r
  | .dic,v,⟨b,e,s,n⟩=>⟨b,e,by rw [upd_ne (show b ≠ a from fun z=>n (.inr (by rw [z]; exact h)))]; exact s,n⟩
theorem RepL.rehide {a : Addr} {o : HO} (h : a ∈ ρ.hid) : ∀ {ps : List PV} {vs : List V},RepL H ρ ps vs -> RepL (upd H a o) ρ ps vs
  | [],_,r=>r
  | p :: ps,_,⟨v,t,e,r1,r2⟩=>⟨v,t,e,Rep.rehide h r1,RepL.rehide h r2⟩
end
mutual
theorem Rep.unhide {hs : List Addr} (hh : ∀ a,a ∈ hs -> a ∈ ρ.hid) : ∀ {p : PV} {v : V},Rep H ρ p v -> Rep H ⟨ρ.tr,hs⟩ p v
  | .non,_,r=>r
  | .bl _,_,r=>r
  | .int _,_,r=>r
  | .str _,_,r=>r
  | .tup ps,v,⟨b,vs,e,s,n,r⟩=>⟨b,vs,e,s,fun z=>n (z.imp id (hh _)),RepL.unhide hh r⟩
  | .lst ps,v,⟨b,vs,e,s,n,r⟩=>⟨b,vs,e,s,fun z=>n (z.imp id (hh _)),RepL.unhide hh r⟩
  | .fro ps,v,⟨b,vs,e,s,n,r⟩=>⟨b,vs,e,s,fun z=>n (z.imp id (hh _)),RepL.unhide hh r⟩
  | .ref i,v,r=>r
  | .dic,v,⟨b,e,s,n⟩=>⟨b,e,s,fun z=>n (z.imp id (hh _))⟩
theorem RepL.unhide {hs : List Addr} (hh : ∀ a,a ∈ hs -> a ∈ ρ.hid) : ∀ {ps : List PV} {vs : List V},RepL H ρ ps vs -> RepL H ⟨ρ.tr,hs⟩ ps vs
  | [],_,r=>r
  | p :: ps,_,⟨v,t,e,r1,r2⟩=>⟨v,t,e,Rep.unhide hh r1,RepL.unhide hh r2⟩
end
theorem RepL.length : ∀ {ps : List PV} {vs : List V},RepL H ρ ps vs -> ps.length = vs.length
  | [],_,h=>by cases h; rfl
  | p :: ps,_,⟨v,r,rfl,_,h2⟩=>by rw [List.length_cons,List.length_cons,RepL.length h2]
theorem RepL.get : ∀ {ps : List PV} {vs : List V} {i : Nat} {p : PV},RepL H ρ ps vs -> ps[i]? = some p -> ∃ v,vs[i]? = some v /\ Rep H ρ p v
  | [],_,_,_,_,e=>by simp at e
  | p :: ps,_,0,q,⟨v,r,rfl,h1,h2⟩,e=>by simp at e; subst e; exact ⟨v,rfl,h1⟩
  | p :: ps,_,i + 1,q,⟨v,r,rfl,h1,h2⟩,e=>by
    obtain ⟨u,e1,e2⟩:=RepL.get (i:=i) h2 (by simpa using e)
    exact ⟨u,by simpa using e1,e2⟩
theorem RepL.cons {p : PV} {v : V} {ps : List PV} {vs : List V} (h : Rep H ρ p v) (r : RepL H ρ ps vs) : RepL H ρ (p :: ps) (v :: vs):=⟨v,vs,rfl,h,r⟩
theorem RepL.nil : RepL H ρ [] []:=rfl
theorem RepL.append : ∀ {ps qs : List PV} {vs us : List V},RepL H ρ ps vs -> RepL H ρ qs us -> RepL H ρ (ps ++ qs) (vs ++ us)
  | [],_,_,_,h,g=>by cases h; exact g
  | p :: ps,_,_,_,⟨v,r,rfl,h1,h2⟩,g=>⟨v,_,rfl,h1,RepL.append h2 g⟩
theorem RepL.take : ∀ {ps : List PV} {vs : List V} (n : Nat),RepL H ρ ps vs -> RepL H ρ (ps.take n) (vs.take n)
  | _,_,0,_=>rfl
  | [],_,n + 1,h=>by cases h; rfl
  | p :: ps,_,n + 1,⟨v,r,rfl,h1,h2⟩=>⟨v,_,rfl,h1,RepL.take n h2⟩
theorem RepL.drop : ∀ {ps : List PV} {vs : List V} (n : Nat),RepL H ρ ps vs -> RepL H ρ (ps.drop n) (vs.drop n)
  | _,_,0,h=>h
  | [],_,n + 1,h=>by cases h; rfl
  | p :: ps,_,n + 1,⟨v,r,rfl,h1,h2⟩=>RepL.drop n h2
theorem RepL.set {p : PV} {v : V} (h : Rep H ρ p v) : ∀ {ps : List PV} {vs : List V} (i : Nat),RepL H ρ ps vs -> RepL H ρ (ps.set i p) (vs.set i v)
  | [],_,_,g=>by cases g; rfl
  | q :: ps,_,0,⟨u,r,rfl,h1,h2⟩=>⟨v,r,rfl,h,h2⟩
  | q :: ps,_,i + 1,⟨u,r,rfl,h1,h2⟩=>⟨u,_,rfl,h1,RepL.set h i h2⟩
theorem RepL.rep {ps : List PV} {vs : List V} (h : RepL H ρ ps vs) : ∀ n,RepL H ρ (List.replicate n ps).flatten (List.replicate n vs).flatten
  | 0=>rfl
  | n + 1=>by rw [List.replicate_succ,List.replicate_succ,List.flatten_cons,List.flatten_cons]; exact h.append (RepL.rep h n)
theorem RepL.toInts : ∀ {ns : List Int} {vs : List V},RepL H ρ (ns.map .int) vs -> vs = ns.map V.int
  | [],_,h=>h
  | n :: ns,_,⟨v,r,rfl,h1,h2⟩=>by
    have e : v = V.int n:=h1
    rw [RepL.toInts h2,e]; rfl
theorem RepL.toBls : ∀ {ns : List Bool} {vs : List V},RepL H ρ (ns.map .bl) vs -> vs = ns.map V.bl
  | [],_,h=>h
  | n :: ns,_,⟨v,r,rfl,h1,h2⟩=>by
    have e : v = V.bl n:=h1
    rw [RepL.toBls h2,e]; rfl
end
structure Rel (H : Hp) (ρ : Tk) (st : Store) : Prop where
  len : ρ.tr.length = st.length
  nd : ρ.tr.Nodup
  hd : ∀ a ∈ ρ.hid,∃ o,H a = some o
  ap : ∀ a ∈ ρ.hid,a ∉ ρ.tr
  cell : ∀ (i : Nat) (a : Addr) (c : Cell),ρ.tr[i]? = some a -> st[i]? = some c -> (match c with | .lst ps=>∃ vs,H a = some (.lst vs) /\ RepL H ρ ps vs)
section
variable {H H' : Hp} {ρ ρ' : Tk} {st st' : Store}
theorem Rel.lst (R : Rel H ρ st) {i : Nat} {ps : List PV} (h : st[i]? = some (.lst ps)) : ∃ a vs,ρ.tr[i]? = some a /\ H a = some (.lst vs) /\ RepL H ρ ps vs:=by
  have hi : i < ρ.tr.length:=by rw [R.len]; exact (List.getElem?_eq_some_iff.mp h).1
  have e : ρ.tr[i]? = some ρ.tr[i]:=List.getElem?_eq_getElem hi
  obtain ⟨vs,e1,e2⟩:=R.cell i _ _ e h
  exact ⟨_,vs,e,e1,e2⟩
theorem Rel.dom (R : Rel H ρ st) {a : Addr} (h : a ∈ ρ.tr) : ∃ vs,H a = some (.lst vs):=by
  obtain ⟨i,hi,e⟩:=List.getElem_of_mem h
  have hs : i < st.length:=by rw [<- R.len]; exact hi
  have q:=R.cell i a st[i] (by rw [List.getElem?_eq_getElem hi,e]) (List.getElem?_eq_getElem hs)
  cases c : st[i] with
  | lst ps=>rw [c] at q; obtain ⟨vs,e1,_⟩:=q; exact ⟨vs,e1⟩
theorem Rel.fresh (R : Rel H ρ st) {p : Addr} (h : H p = none) : p ∉ ρ:=fun z=>by
  rcases z with z | z
  · obtain ⟨vs,q⟩:=R.dom z
    rw [h] at q; cases q
  · obtain ⟨o,q⟩:=R.hd p z
    rw [h] at q; cases q
theorem Rel.later (R : Rel H ρ st) (x : Ext H ρ H' ρ) (k : ∀ a o,a ∈ ρ.tr -> H a = some o -> H' a = some o) : Rel H' ρ st where
  len:=R.len
  nd:=R.nd
  hd:=fun a ha=>let ⟨o,e⟩:=R.hd a ha; x.old a o e
  ap:=R.ap
  cell:=fun i a c h1 h2=>by
    have q:=R.cell i a c h1 h2
    cases c with
    | lst ps=>
      obtain ⟨vs,e1,e2⟩:=q
      exact ⟨vs,k a _ (List.mem_of_getElem? h1) e1,e2.ext x⟩
end
theorem Rel.add {H : Hp} {ρ : Tk} {st : Store} (R : Rel H ρ st) {p : Addr} {o : HO} (h : H p = none) : Rel (upd H p o) ρ st:=
  R.later (Ext.add h) fun a u hm e=>by rw [upd_ne (ne_of_none e h)]; exact e
theorem Rel.same {H H' : Hp} {ρ : Tk} {st : Store} (R : Rel H ρ st) (h : Same H H') : Rel H' ρ st:=R.later (Ext.same h) fun a u _ e=>h a u e
theorem nodup_inj {α : Type} {l : List α} (h : l.Nodup) {i j : Nat} (hi : i < l.length) (hj : j < l.length) (e : l[i] = l[j]) : i = j:=by
  rcases Nat.lt_trichotomy i j with z | z | z
  · exact absurd e ((List.pairwise_iff_getElem.mp h) i j hi hj z)
  · exact z
  · exact absurd e.symm ((List.pairwise_iff_getElem.mp h) j i hj hi z)
theorem Ext.put {H : Hp} {ρ : Tk} {a : Addr} {o o' : HO} (h : a ∈ ρ.tr) (e : H a = some o) : Ext H ρ (upd H a o') ρ where
  pre:=List.prefix_refl _
  hidM:=fun _ h=>h
  hidN:=fun _ h=>.inl h
  keep:=fun b u q n=>by rw [upd_ne (show b ≠ a from fun z=>n (by rw [z]; exact h))]; exact q
  new:=fun b q=>.inl q
  old:=fun b u q=>by
    by_cases z : b = a
    · exact ⟨o',by rw [z]; exact upd_same⟩
    · exact ⟨u,by rw [upd_ne z]; exact q⟩
theorem Rel.put {H : Hp} {ρ : Tk} {st : Store} (R : Rel H ρ st) {i : Nat} {a : Addr} {ps : List PV} {vs : List V} {o : HO} (hi : ρ.tr[i]? = some a) (e : H a = some o) (r : RepL H ρ ps vs) : Rel (upd H a (.lst vs)) ρ (st.set i (.lst ps)) where
  len:=by rw [List.length_set]; exact R.len
  nd:=R.nd
  hd:=fun b hb=>let ⟨u,q⟩:=R.hd b hb; ⟨u,by rw [upd_ne (show b ≠ a from fun z=>R.ap b hb (by rw [z]; exact List.mem_of_getElem? hi))]; exact q⟩
  ap:=R.ap
  cell:=fun j b c h1 h2=>by
    have x:=Ext.put (o':=.lst vs) (List.mem_of_getElem? hi) e
    by_cases hj : i = j
    · subst hj
      rw [hi] at h1; cases h1
      rw [List.getElem?_set_self (by rw [<- R.len]; exact (List.getElem?_eq_some_iff.mp hi).1)] at h2
      cases h2
      exact ⟨vs,upd_same,r.ext x⟩
    · rw [List.getElem?_set_ne hj] at h2
      have q:=R.cell j b c h1 h2
      have hb : b ≠ a:=fun z=>by
        subst z
        have l1:=(List.getElem?_eq_some_iff.mp hi)
        have l2:=(List.getElem?_eq_some_iff.mp h1)
        exact hj (nodup_inj R.nd l1.1 l2.1 (l1.2.trans l2.2.symm))
      cases c with
      | lst qs=>
        obtain ⟨us,e1,e2⟩:=q
        exact ⟨us,by rw [upd_ne hb]; exact e1,e2.ext x⟩
theorem Rel.hide {H : Hp} {ρ : Tk} {st : Store} (R : Rel H ρ st) {p : Addr} {o : HO} (h : H p = none) : Rel (upd H p o) (ρ.hide p) st:=by
  have x : Ext H ρ (upd H p o) ρ:=Ext.add h
  have R':=R.add (p:=p) (o:=o) h
  refine ⟨R'.len,R'.nd,fun a ha=>?_,fun a ha z=>?_,fun i a c h1 h2=>?_⟩
  · rcases List.mem_cons.mp ha with rfl | ha
    · exact ⟨o,upd_same⟩
    · exact R'.hd a ha
  · rcases List.mem_cons.mp ha with rfl | ha
    · exact R.fresh h (.inl z)
    · exact R.ap a ha z
  · have q:=R.cell i a c h1 h2
    cases c with
    | lst ps=>
      obtain ⟨vs,e1,e2⟩:=q
      exact ⟨vs,by rw [upd_ne (ne_of_none e1 h)]; exact e1,e2.hide h⟩
theorem Rel.rehide {H : Hp} {ρ : Tk} {st : Store} (R : Rel H ρ st) {p : Addr} {o : HO} (h : p ∈ ρ.hid) : Rel (upd H p o) ρ st:=by
  refine ⟨R.len,R.nd,fun a ha=>?_,R.ap,fun i a c h1 h2=>?_⟩
  · by_cases e : a = p
    · exact ⟨o,by rw [e]; exact upd_same⟩
    · obtain ⟨u,q⟩:=R.hd a ha
      exact ⟨u,by rw [upd_ne e]; exact q⟩
  · have q:=R.cell i a c h1 h2
    have ne : a ≠ p:=fun z=>R.ap p h (by rw [<- z]; exact List.mem_of_getElem? h1)
    cases c with
    | lst ps=>
      obtain ⟨vs,e1,e2⟩:=q
      exact ⟨vs,by rw [upd_ne ne]; exact e1,e2.rehide h⟩
theorem Rel.unhide {H : Hp} {ρ : Tk} {st : Store} {hs : List Addr} (hh : ∀ a,a ∈ hs -> a ∈ ρ.hid) (R : Rel H ρ st) : Rel H ⟨ρ.tr,hs⟩ st:=by
  refine ⟨R.len,R.nd,fun a ha=>R.hd a (hh a ha),fun a ha=>R.ap a (hh a ha),fun i a c h1 h2=>?_⟩
  have q:=R.cell i a c h1 h2
  cases c with
  | lst ps=>
    obtain ⟨vs,e1,e2⟩:=q
    exact ⟨vs,e1,RepL.unhide hh e2⟩
theorem Ext.hide {H : Hp} {ρ : Tk} {p : Addr} {o : HO} (h : H p = none) : Ext H ρ (upd H p o) (ρ.hide p) where
  pre:=List.prefix_refl _
  hidM:=fun _ h=>List.mem_cons_of_mem _ h
  hidN:=fun a ha=>by
    rcases List.mem_cons.mp ha with rfl | ha
    · exact .inr h
    · exact .inl ha
  keep:=fun a u e _=>by rw [upd_ne (ne_of_none e h)]; exact e
  new:=fun a e=>.inl e
  old:=fun a u e=>⟨u,by rw [upd_ne (ne_of_none e h)]; exact e⟩
theorem Ext.put0 {H H1 : Hp} {ρ ρ1 : Tk} {p : Addr} {o : HO} (x : Ext H ρ H1 ρ1) (h : H p = none) : Ext H ρ (upd H1 p o) ρ1 where
  pre:=x.pre
  hidM:=x.hidM
  hidN:=x.hidN
  keep:=fun a u e n=>by rw [upd_ne (ne_of_none e h)]; exact x.keep a u e n
  new:=x.new
  old:=fun a u e=>by rw [upd_ne (ne_of_none e h)]; exact x.old a u e
theorem Ext.unhide {H H1 : Hp} {ρ ρ1 : Tk} (x : Ext H ρ H1 ρ1) : Ext H ρ H1 ⟨ρ1.tr,ρ.hid⟩ where
  pre:=x.pre
  hidM:=fun _ h=>h
  hidN:=fun _ h=>.inl h
  keep:=x.keep
  new:=x.new
  old:=x.old
def EnvR (H : Hp) (ρ : Tk) (Γ : Gam) (σ : St) : Prop:=Γ.length = σ.length /\ ∀ (i : Nat) (p : PV),Γ[i]? = some (some p) -> ∃ v,σ[i]? = some (some v) /\ Rep H ρ p v
theorem EnvR.ext {H H' : Hp} {ρ ρ' : Tk} {Γ : Gam} {σ : St} (x : Ext H ρ H' ρ') (h : EnvR H ρ Γ σ) : EnvR H' ρ' Γ σ:=
  ⟨h.1,fun i p e=>let ⟨v,a,b⟩:=h.2 i p e; ⟨v,a,b.ext x⟩⟩
theorem EnvR.hide {H : Hp} {ρ : Tk} {Γ : Gam} {σ : St} {a : Addr} {o : HO} (n : H a = none) (h : EnvR H ρ Γ σ) : EnvR (upd H a o) (ρ.hide a) Γ σ:=⟨h.1,fun i p e=>let ⟨v,a,b⟩:=h.2 i p e; ⟨v,a,b.hide n⟩⟩
theorem EnvR.rehide {H : Hp} {ρ : Tk} {Γ : Gam} {σ : St} {a : Addr} {o : HO} (n : a ∈ ρ.hid) (h : EnvR H ρ Γ σ) : EnvR (upd H a o) ρ Γ σ:=⟨h.1,fun i p e=>let ⟨v,a,b⟩:=h.2 i p e; ⟨v,a,b.rehide n⟩⟩
theorem EnvR.set {H : Hp} {ρ : Tk} {Γ : Gam} {σ : St} {p : PV} {v : V} (h : EnvR H ρ Γ σ) (r : Rep H ρ p v) (i : Nat) : EnvR H ρ (Γ.set i (some p)) (σ.set i (some v)):=by
  refine ⟨by rw [List.length_set,List.length_set]; exact h.1,fun j q e=>?_⟩
  rw [List.getElem?_set] at e
  rw [List.getElem?_set]
  by_cases hj : i = j
  · subst hj
    simp only [if_true] at e ⊢
    by_cases hl : i < Γ.length
    · rw [if_pos hl] at e; cases e
      rw [if_pos (by rw [<- h.1]; exact hl)]
      exact ⟨v,rfl,r⟩
    · rw [if_neg hl] at e; cases e
  · rw [if_neg hj] at e ⊢
    exact h.2 j q e
end Sm
namespace Sm
open PySem PySem.Spec L2
def Res.bind {α β : Type} (r : Res α) (f : α -> Store -> Res β) : Res β:=match r with
  | .ok a st=>f a st
  | .exc x st=>.exc x st
  | .stuck=>.stuck
def okO {α : Type} (st : Store) : Option α -> Res α
  | some a=>.ok a st
  | none=>.stuck
section
variable (X : Cx)
def WE (e : Expr) : TE:=fun σ H Q=>∀ (pins : List (Addr × Obj)) (s : Shared),Inv X pins σ H s -> wpAny (model X.prog X.w) X.A (eval e X.env) (EP X pins σ Q) X.xe s
def WT (e : Expr) : TT:=fun σ H Q=>∀ (pins : List (Addr × Obj)) (s : Shared),Inv X pins σ H s -> wpAny (model X.prog X.w) X.A (isTrue e X.env (eval e X.env)) (TP X pins σ Q) X.xe s
def WW (e : Expr) : TT:=fun σ H Q=>∀ (wh : Sem Value) (pins : List (Addr × Obj)) (s : Shared),Inv X pins σ H s -> wpAny (model X.prog X.w) X.A (isTrue e X.env wh) (TP X pins σ Q) X.xe s
def WA (es : List Expr) : TA:=fun σ H Q=>∀ (pos : Pos) (pins : List (Addr × Obj)) (s : Shared),Inv X pins σ H s -> wpAny (model X.prog X.w) X.A (spliced (backTo pos (starEach es X.env))) (AP X pins σ Q) X.xe s
def WS (st : Stmt) : TS:=fun D σ H=>∀ (pins : List (Addr × Obj)) (s : Shared),Inv X pins σ H s -> wpAny (model X.prog X.w) X.A (exec st X.env) (SP X pins D) X.xe s
def WB (st : List Stmt) : TS:=fun D σ H=>∀ (pins : List (Addr × Obj)) (s : Shared),Inv X pins σ H s -> wpAny (model X.prog X.w) X.A (execs st X.env) (SP X pins D) X.xe s
def WI (tg iter : Expr) : TI := fun σ H R => ∀ (pins : List (Addr × Obj)) (s : Shared), Inv X pins σ H s ->
    wpAny (model X.prog X.w) X.A (eval iter X.env) (fun v s1=>wpAny (model X.prog X.w) X.A (pyIter v) (PIE X pins σ tg R) X.xe s1) X.xe s
def WO (f : Value -> Value -> Sem Value) : R2:=fun x y H Q=>∀ (pins : List (Addr × Obj)) (s : Shared) (σ : St) (v u : Value),Inv X pins σ H s -> RelV x v -> RelV y u -> wpAny (model X.prog X.w) X.A (f v u) (EP X pins σ Q) X.xe s
def WC (f : Value) : List V -> Hp -> VK -> Prop:=fun xs H Q=>∀ (pins : List (Addr × Obj)) (s : Shared) (σ : St) (us : List Value),Inv X pins σ H s -> Vals xs us -> wpAny (model X.prog X.w) X.A (call f us) (EP X pins σ Q) X.xe s
end
section
variable {X : Cx}
theorem pe_w {e : Expr} : PE X e (WE X e):=fun pins s _ _ _ I h=>h pins s I
theorem pt_w {e : Expr} : PT X e (WT X e):=fun pins s _ _ _ I h=>h pins s I
theorem pw_w {e : Expr} : PW X e (WW X e):=fun wh pins s _ _ _ I h=>h wh pins s I
theorem pa_w {es : List Expr} : PA X es (WA X es):=fun pos pins s _ _ _ I h=>h pos pins s I
theorem ps_w {st : Stmt} : PS X st (WS X st):=fun pins s _ _ _ I h=>h pins s I
theorem pss_w {st : List Stmt} : PSs X st (WB X st):=fun pins s _ _ _ I h=>h pins s I
theorem pi_w {tg iter : Expr} : PI X tg iter (WI X tg iter):=fun pins s _ _ _ I h=>h pins s I
theorem op_w {f : Value -> Value -> Sem Value} : OpR X f (WO X f):=fun pins s σ _ _ _ v u _ I r1 r2 h=>h pins s σ v u I r1 r2
theorem call_w {f : Value} : CallR X f (WC X f):=fun pins s σ _ _ us _ I r h=>h pins s σ us I r
theorem WE.of {e : Expr} {t : TE} {σ : St} {H : Hp} {Q : VK} (h : PE X e t) (q : t σ H Q) : WE X e σ H Q:=fun pins s I=>h pins s σ H Q I q
theorem WT.of {e : Expr} {t : TT} {σ : St} {H : Hp} {Q : Bool -> Hp -> Prop} (h : PT X e t) (q : t σ H Q) : WT X e σ H Q:=fun pins s I=>h pins s σ H Q I q
theorem WW.of {e : Expr} {t : TT} {σ : St} {H : Hp} {Q : Bool -> Hp -> Prop} (h : PW X e t) (q : t σ H Q) : WW X e σ H Q:=fun wh pins s I=>h wh pins s σ H Q I q
theorem WA.of {es : List Expr} {t : TA} {σ : St} {H : Hp} {Q : List V -> Hp -> Prop} (h : PA X es t) (q : t σ H Q) : WA X es σ H Q:=fun pos pins s I=>h pos pins s σ H Q I q
theorem WS.of {st : Stmt} {t : TS} {σ : St} {H : Hp} {D : Ends} (h : PS X st t) (q : t D σ H) : WS X st D σ H:=fun pins s I=>h pins s σ H D I q
theorem WB.of {st : List Stmt} {t : TS} {σ : St} {H : Hp} {D : Ends} (h : PSs X st t) (q : t D σ H) : WB X st D σ H:=fun pins s I=>h pins s σ H D I q
theorem WI.of {tg iter : Expr} {t : TI} {σ : St} {H : Hp} {R : It -> Hp -> Prop} (h : PI X tg iter t) (q : t σ H R) : WI X tg iter σ H R:=fun pins s I=>h pins s σ H R I q
theorem WO.of {f : Value -> Value -> Sem Value} {r : R2} {x y : V} {H : Hp} {Q : VK} (h : OpR X f r) (q : r x y H Q) : WO X f x y H Q:=fun pins s σ v u I r1 r2=>h pins s σ H x y v u Q I r1 r2 q
theorem WC.of {f : Value} {r : List V -> Hp -> VK -> Prop} {xs : List V} {H : Hp} {Q : VK} (h : CallR X f r) (q : r xs H Q) : WC X f xs H Q:=fun pins s σ us I r1=>h pins s σ H xs us Q I r1 q
end
def XFs (H : Hp) (ρ : Tk) : Option (Str × PV) -> Option Addr -> Prop
  | none,dv=>dv = none
  | some (n,p),dv=>∃ dx v,dv = some dx /\ H dx = some (.xd [(n,v)]) /\ dx ∉ ρ /\ Rep H ρ p v
def Acc {α : Type} (mg : Str -> Option Value) (E : XK) (H : Hp) (ρ : Tk) (P : α -> Store -> Hp -> Tk -> Prop) : Res α -> Prop
  | .ok a st=>∀ H' ρ',Ext H ρ H' ρ' -> Rel H' ρ' st -> P a st H' ρ'
  | .exc x st=>∀ C dv H' ρ',mg x.cls = some (.ref C) -> Ext H ρ H' ρ' -> Rel H' ρ' st -> XFs H' ρ' x.fs dv -> E (.ref C) dv H'
  | .stuck=>False
section
variable {α β : Type} {mg : Str -> Option Value} {E : XK} {H H1 : Hp} {ρ ρ1 : Tk}
theorem Acc.mono {P P' : α -> Store -> Hp -> Tk -> Prop} {r : Res α} (h : Acc mg E H ρ P r) (x : Ext H ρ H1 ρ1) (k : ∀ a st H' ρ',P a st H' ρ' -> P' a st H' ρ') : Acc mg E H1 ρ1 P' r:=by
  cases r with
  | ok a st=>exact fun H' ρ' x' R'=>k _ _ _ _ (h H' ρ' (x.trans x') R')
  | exc e st=>exact fun C dv H' ρ' m x' R' f=>h C dv H' ρ' m (x.trans x') R' f
  | stuck=>exact h
theorem Acc.later {P : α -> Store -> Hp -> Tk -> Prop} {r : Res α} (h : Acc mg E H ρ P r) (x : Ext H ρ H1 ρ1) : Acc mg E H1 ρ1 P r:=h.mono x fun _ _ _ _ p=>p
theorem Acc.bind {P : β -> Store -> Hp -> Tk -> Prop} {r : Res α} {f : α -> Store -> Res β} (h : Acc mg E H ρ P (r.bind f)) : Acc mg E H ρ (fun a st1 H1 ρ1=>Acc mg E H1 ρ1 P (f a st1)) r:=by
  cases r with
  | ok a st=>exact fun H' ρ' x' R'=>Acc.later (show Acc mg E H ρ P (f a st) from h) x'
  | exc e st=>exact h
  | stuck=>exact h
end
abbrev QV (Q : VK) : PV -> Store -> Hp -> Tk -> Prop:=fun p _ H' ρ'=>∀ v,Rep H' ρ' p v -> Q v H'
abbrev QL (Q : List V -> Hp -> Prop) : List PV -> Store -> Hp -> Tk -> Prop:=fun ps _ H' ρ'=>∀ vs,RepL H' ρ' ps vs -> Q vs H'
abbrev QB (Q : Bool -> Hp -> Prop) : Bool -> Store -> Hp -> Tk -> Prop:=fun b _ H' _=>Q b H'
structure SimE (X : Cx) (E : XK) (e : Expr) (m : ME) : Prop where
  run : ∀ (Γ : Gam) (σ : St) (H : Hp) (ρ : Tk) (st : Store) (Q : VK),Rel H ρ st -> EnvR H ρ Γ σ -> Acc X.mg E H ρ (QV Q) (m Γ st) -> WE X e σ H Q
structure SimT (X : Cx) (E : XK) (e : Expr) (m : Gam -> Store -> Res Bool) : Prop where
  run : ∀ (Γ : Gam) (σ : St) (H : Hp) (ρ : Tk) (st : Store) (Q : Bool -> Hp -> Prop),Rel H ρ st -> EnvR H ρ Γ σ -> Acc X.mg E H ρ (QB Q) (m Γ st) -> WT X e σ H Q
structure SimW (X : Cx) (E : XK) (e : Expr) (m : Gam -> Store -> Res Bool) : Prop where
  run : ∀ (Γ : Gam) (σ : St) (H : Hp) (ρ : Tk) (st : Store) (Q : Bool -> Hp -> Prop),Rel H ρ st -> EnvR H ρ Γ σ -> Acc X.mg E H ρ (QB Q) (m Γ st) -> WW X e σ H Q
structure SimA (X : Cx) (E : XK) (es : List Expr) (m : Gam -> Store -> Res (List PV)) : Prop where
  run : ∀ (Γ : Gam) (σ : St) (H : Hp) (ρ : Tk) (st : Store) (Q : List V -> Hp -> Prop),Rel H ρ st -> EnvR H ρ Γ σ -> Acc X.mg E H ρ (QL Q) (m Γ st) -> WA X es σ H Q
abbrev OP:=Store -> PV -> PV -> Res PV
structure OpS (X : Cx) (E : XK) (f : Value -> Value -> Sem Value) (o : OP) : Prop where
  run : ∀ (H : Hp) (ρ : Tk) (st : Store) (p q : PV) (x y : V) (Q : VK),Rel H ρ st -> Rep H ρ p x -> Rep H ρ q y -> Acc X.mg E H ρ (QV Q) (o st p q) -> WO X f x y H Q
abbrev CF:=Store -> List PV -> Res PV
structure CallS (X : Cx) (E : XK) (f : Value) (o : CF) : Prop where
  run : ∀ (H : Hp) (ρ : Tk) (st : Store) (ps : List PV) (xs : List V) (Q : VK),Rel H ρ st -> RepL H ρ ps xs -> Acc X.mg E H ρ (QV Q) (o st ps) -> WC X f xs H Q
section
variable {X : Cx} {E : XK} {Γ : Gam} {σ : St} {H : Hp} {ρ : Tk} {st : Store}
theorem SimE.use {e : Expr} {m : ME} (s : SimE X E e m) {P : PV -> Store -> Hp -> Tk -> Prop} {Q : VK} (R : Rel H ρ st) (G : EnvR H ρ Γ σ) (h : Acc X.mg E H ρ P (m Γ st))
    (k : ∀ p st1 H1 ρ1 v,Ext H ρ H1 ρ1 -> Rel H1 ρ1 st1 -> EnvR H1 ρ1 Γ σ -> Rep H1 ρ1 p v -> P p st1 H1 ρ1 -> Q v H1) : WE X e σ H Q:=by
  refine s.run Γ σ H ρ st Q R G ?_
  cases r : m Γ st with
  | ok p st1=>rw [r] at h; exact fun H' ρ' x' R' v rv=>k p st1 H' ρ' v x' R' (G.ext x') rv (h H' ρ' x' R')
  | exc e st=>rw [r] at h; exact h
  | stuck=>rw [r] at h; exact h
theorem SimE.use' {e : Expr} {m : ME} (s : SimE X E e m) {P : PV -> Store -> Hp -> Tk -> Prop} {Q : VK} (R : Rel H ρ st) (G : EnvR H ρ Γ σ) (h : Acc X.mg E H ρ P (m Γ st))
    (k : ∀ p st1 H1 ρ1 v,m Γ st = .ok p st1 -> Ext H ρ H1 ρ1 -> Rel H1 ρ1 st1 -> EnvR H1 ρ1 Γ σ -> Rep H1 ρ1 p v -> P p st1 H1 ρ1 -> Q v H1) : WE X e σ H Q:=by
  refine s.run Γ σ H ρ st Q R G ?_
  cases r : m Γ st with
  | ok p st1=>rw [r] at h; exact fun H' ρ' x' R' v rv=>k p st1 H' ρ' v r x' R' (G.ext x') rv (h H' ρ' x' R')
  | exc e st=>rw [r] at h; exact h
  | stuck=>rw [r] at h; exact h
theorem SimA.use' {es : List Expr} {m : Gam -> Store -> Res (List PV)} (s : SimA X E es m) {P : List PV -> Store -> Hp -> Tk -> Prop} {Q : List V -> Hp -> Prop} (R : Rel H ρ st) (G : EnvR H ρ Γ σ) (h : Acc X.mg E H ρ P (m Γ st))
    (k : ∀ ps st1 H1 ρ1 vs,m Γ st = .ok ps st1 -> Ext H ρ H1 ρ1 -> Rel H1 ρ1 st1 -> EnvR H1 ρ1 Γ σ -> RepL H1 ρ1 ps vs -> P ps st1 H1 ρ1 -> Q vs H1) : WA X es σ H Q:=by
  refine s.run Γ σ H ρ st Q R G ?_
  cases r : m Γ st with
  | ok p st1=>rw [r] at h; exact fun H' ρ' x' R' v rv=>k p st1 H' ρ' v r x' R' (G.ext x') rv (h H' ρ' x' R')
  | exc e st=>rw [r] at h; exact h
  | stuck=>rw [r] at h; exact h
theorem SimT.use {e : Expr} {m : Gam -> Store -> Res Bool} (s : SimT X E e m) {P : Bool -> Store -> Hp -> Tk -> Prop} {Q : Bool -> Hp -> Prop} (R : Rel H ρ st) (G : EnvR H ρ Γ σ) (h : Acc X.mg E H ρ P (m Γ st))
    (k : ∀ p st1 H1 ρ1,Ext H ρ H1 ρ1 -> Rel H1 ρ1 st1 -> EnvR H1 ρ1 Γ σ -> P p st1 H1 ρ1 -> Q p H1) : WT X e σ H Q:=by
  refine s.run Γ σ H ρ st Q R G ?_
  cases r : m Γ st with
  | ok p st1=>rw [r] at h; exact fun H' ρ' x' R'=>k p st1 H' ρ' x' R' (G.ext x') (h H' ρ' x' R')
  | exc e st=>rw [r] at h; exact h
  | stuck=>rw [r] at h; exact h
theorem SimT.use' {e : Expr} {m : Gam -> Store -> Res Bool} (s : SimT X E e m) {P : Bool -> Store -> Hp -> Tk -> Prop} {Q : Bool -> Hp -> Prop} (R : Rel H ρ st) (G : EnvR H ρ Γ σ) (h : Acc X.mg E H ρ P (m Γ st))
    (k : ∀ p st1 H1 ρ1,m Γ st = .ok p st1 -> Ext H ρ H1 ρ1 -> Rel H1 ρ1 st1 -> EnvR H1 ρ1 Γ σ -> P p st1 H1 ρ1 -> Q p H1) : WT X e σ H Q:=by
  refine s.run Γ σ H ρ st Q R G ?_
  cases r : m Γ st with
  | ok p st1=>rw [r] at h; exact fun H' ρ' x' R'=>k p st1 H' ρ' r x' R' (G.ext x') (h H' ρ' x' R')
  | exc e st=>rw [r] at h; exact h
  | stuck=>rw [r] at h; exact h
theorem SimW.use {e : Expr} {m : Gam -> Store -> Res Bool} (s : SimW X E e m) {P : Bool -> Store -> Hp -> Tk -> Prop} {Q : Bool -> Hp -> Prop} (R : Rel H ρ st) (G : EnvR H ρ Γ σ) (h : Acc X.mg E H ρ P (m Γ st))
    (k : ∀ p st1 H1 ρ1,Ext H ρ H1 ρ1 -> Rel H1 ρ1 st1 -> EnvR H1 ρ1 Γ σ -> P p st1 H1 ρ1 -> Q p H1) : WW X e σ H Q:=by
  refine s.run Γ σ H ρ st Q R G ?_
  cases r : m Γ st with
  | ok p st1=>rw [r] at h; exact fun H' ρ' x' R'=>k p st1 H' ρ' x' R' (G.ext x') (h H' ρ' x' R')
  | exc e st=>rw [r] at h; exact h
  | stuck=>rw [r] at h; exact h
theorem SimA.use {es : List Expr} {m : Gam -> Store -> Res (List PV)} (s : SimA X E es m) {P : List PV -> Store -> Hp -> Tk -> Prop} {Q : List V -> Hp -> Prop} (R : Rel H ρ st) (G : EnvR H ρ Γ σ) (h : Acc X.mg E H ρ P (m Γ st))
    (k : ∀ ps st1 H1 ρ1 vs,Ext H ρ H1 ρ1 -> Rel H1 ρ1 st1 -> EnvR H1 ρ1 Γ σ -> RepL H1 ρ1 ps vs -> P ps st1 H1 ρ1 -> Q vs H1) : WA X es σ H Q:=by
  refine s.run Γ σ H ρ st Q R G ?_
  cases r : m Γ st with
  | ok p st1=>rw [r] at h; exact fun H' ρ' x' R' v rv=>k p st1 H' ρ' v x' R' (G.ext x') rv (h H' ρ' x' R')
  | exc e st=>rw [r] at h; exact h
  | stuck=>rw [r] at h; exact h
theorem OpS.use {f : Value -> Value -> Sem Value} {o : OP} (s : OpS X E f o) {P : PV -> Store -> Hp -> Tk -> Prop} {Q : VK} {p q : PV} {x y : V} (R : Rel H ρ st) (rp : Rep H ρ p x) (rq : Rep H ρ q y) (h : Acc X.mg E H ρ P (o st p q))
    (k : ∀ p st1 H1 ρ1 v,Ext H ρ H1 ρ1 -> Rel H1 ρ1 st1 -> Rep H1 ρ1 p v -> P p st1 H1 ρ1 -> Q v H1) : WO X f x y H Q:=by
  refine s.run H ρ st p q x y Q R rp rq ?_
  cases r : o st p q with
  | ok p st1=>rw [r] at h; exact fun H' ρ' x' R' v rv=>k p st1 H' ρ' v x' R' rv (h H' ρ' x' R')
  | exc e st=>rw [r] at h; exact h
  | stuck=>rw [r] at h; exact h
end
end Sm
namespace Sm
open PySem PySem.Spec L2 SeqAt
mutual
def peq : PV -> PV -> Bool
  | .non,.non=>true
  | .bl a,.bl b=>a == b
  | .bl a,.int b=>(if a then 1 else 0) == b
  | .int a,.bl b=>a == (if b then 1 else 0)
  | .int a,.int b=>a == b
  | .str a,.str b=>a == b
  | .tup xs,.tup ys=>peqL xs ys
  | .lst xs,.lst ys=>peqL xs ys
  | .lst xs,.fro ys=>peqL xs ys
  | .fro xs,.lst ys=>peqL xs ys
  | .fro xs,.fro ys=>peqL xs ys
  | _,_=>false
def peqL : List PV -> List PV -> Bool
  | [],[]=>true
  | x :: xs,y :: ys=>peq x y && peqL xs ys
  | _,_=>false
end
def good : Nat -> PV -> Bool
  | _,.ref _=>false
  | _,.dic=>false
  | 0,.tup _=>false
  | 0,.lst _=>false
  | 0,.fro _=>false
  | n + 1,.tup xs=>xs.all (good n)
  | n + 1,.lst xs=>xs.all (good n)
  | n + 1,.fro xs=>xs.all (good n)
  | _,_=>true
theorem peqL_len : ∀ {xs ys : List PV},xs.length ≠ ys.length -> peqL xs ys = false
  | [],[],h=>absurd rfl h
  | [],_ :: _,_=>by simp [peqL]
  | _ :: _,[],_=>by simp [peqL]
  | x :: xs,y :: ys,h=>by
    rw [peqL,peqL_len (xs:=xs) (ys:=ys) fun e=>h (by simp [e]),Bool.and_false]
theorem peqL_all : ∀ {xs ys : List PV},xs.length = ys.length -> peqL xs ys = (List.range xs.length).all fun j=>peq (xs.getD j .non) (ys.getD j .non)
  | [],[],_=>by simp [peqL]
  | [],_ :: _,h=>by simp at h
  | _ :: _,[],h=>by simp at h
  | x :: xs,y :: ys,h=>by
    rw [peqL,peqL_all (xs:=xs) (ys:=ys) (by simpa using h),List.length_cons,List.range_succ_eq_map,List.all_cons,List.all_map]
    rfl
section
variable {X : Cx} {pins : List (Addr × Obj)} {σ : St} {H : Hp} {s : Shared} {ρ : Tk}
mutual
theorem rep_same : ∀ {p q : PV} {x : V} {n : Nat},good n p = true -> good n q = true -> Rep H ρ p x -> Rep H ρ q x -> peq p q = true
  | .non,q,x,n,_,gq,h1,h2=>by
    cases h1
    cases q <;> first | rfl | (cases n <;> cases gq; done) | (cases h2; done) | (obtain ⟨_,_,e,_⟩:=h2; cases e) | (obtain ⟨_,_,e⟩:=h2; cases e)
  | .bl b,q,x,n,_,gq,h1,h2=>by
    cases h1
    cases q <;> first | (cases n <;> cases gq; done) | (cases h2; simp [peq]; done) | (obtain ⟨_,_,e,_⟩:=h2; done) | (obtain ⟨_,_,e,_⟩:=h2; cases e; done) | (obtain ⟨_,_,e⟩:=h2; cases e)
  | .int b,q,x,n,_,gq,h1,h2=>by
    cases h1
    cases q <;> first | (cases n <;> cases gq; done) | (cases h2; simp [peq]; done) | (obtain ⟨_,_,e,_⟩:=h2; done) | (obtain ⟨_,_,e,_⟩:=h2; cases e; done) | (obtain ⟨_,_,e⟩:=h2; cases e)
  | .str b,q,x,n,_,gq,h1,h2=>by
    cases h1
    cases q <;> first | (cases n <;> cases gq; done) | (cases h2; simp [peq]; done) | (obtain ⟨_,_,e,_⟩:=h2; done) | (obtain ⟨_,_,e,_⟩:=h2; cases e; done) | (obtain ⟨_,_,e⟩:=h2; cases e)
  | .tup ps,q,x,0,gp,_,_,_=>by cases gp
  | .tup ps,q,x,n + 1,gp,gq,⟨a,vs,e,ha,_,r⟩,h2=>by
    subst e
    cases q with
    | tup qs=>
      obtain ⟨b,us,e,hb,_,r2⟩:=h2
      cases e
      rw [ha] at hb; cases hb
      rw [peq]
      exact repL_same gp gq r r2
    | lst qs=>obtain ⟨b,us,e,hb,_⟩:=h2; cases e; rw [ha] at hb; cases hb
    | fro qs=>obtain ⟨b,us,e,hb,_⟩:=h2; cases e; rcases hb with hb | ⟨o,hb⟩ <;> (rw [ha] at hb; cases hb)
    | ref i=>cases gq
    | dic=>cases gq
    | _=>cases h2
  | .lst ps,q,x,0,gp,_,_,_=>by cases gp
  | .lst ps,q,x,n + 1,gp,gq,⟨a,vs,e,ha,_,r⟩,h2=>by
    subst e
    cases q with
    | lst qs=>
      obtain ⟨b,us,e,hb,_,r2⟩:=h2
      cases e
      rw [ha] at hb; cases hb
      rw [peq]
      exact repL_same gp gq r r2
    | tup qs=>obtain ⟨b,us,e,hb,_⟩:=h2; cases e; rw [ha] at hb; cases hb
    | fro qs=>
      obtain ⟨b,us,e,hb,_,r2⟩:=h2
      cases e
      rcases hb with hb | ⟨o,hb⟩
      · rw [ha] at hb; cases hb
        rw [peq]
        exact repL_same gp gq r r2
      · rw [ha] at hb; cases hb
    | ref i=>cases gq
    | dic=>cases gq
    | _=>cases h2
  | .fro ps,q,x,0,gp,_,_,_=>by cases gp
  | .fro ps,q,x,n + 1,gp,gq,⟨a,vs,e,ha,_,r⟩,h2=>by
    subst e
    cases q with
    | lst qs=>
      obtain ⟨b,us,e,hb,_,r2⟩:=h2
      cases e
      rcases ha with ha | ⟨o,ha⟩
      · rw [ha] at hb; cases hb
        rw [peq]
        exact repL_same gp gq r r2
      · rw [ha] at hb; cases hb
    | tup qs=>obtain ⟨b,us,e,hb,_⟩:=h2; cases e; rcases ha with ha | ⟨o,ha⟩ <;> (rw [ha] at hb; cases hb)
    | fro qs=>
      obtain ⟨b,us,e,hb,_,r2⟩:=h2
      cases e
      have : vs = us:=by
        rcases ha with ha | ⟨o,ha⟩ <;> rcases hb with hb | ⟨o',hb⟩ <;> (rw [ha] at hb; cases hb) <;> rfl
      subst this
      rw [peq]
      exact repL_same gp gq r r2
    | ref i=>cases gq
    | dic=>cases gq
    | _=>cases h2
  | .ref i,_,_,n,gp,_,_,_=>by cases n <;> cases gp
  | .dic,_,_,n,gp,_,_,_=>by cases n <;> cases gp
theorem repL_same : ∀ {ps qs : List PV} {vs : List V} {n : Nat},ps.all (good n) = true -> qs.all (good n) = true -> RepL H ρ ps vs -> RepL H ρ qs vs -> peqL ps qs = true
  | [],qs,vs,n,_,_,h1,h2=>by
    cases h1
    cases qs with
    | nil=>rfl
    | cons q qs=>obtain ⟨_,_,e,_⟩:=h2; cases e
  | p :: ps,qs,vs,n,g1,g2,⟨v,r,e,h1,h1'⟩,h2=>by
    subst e
    cases qs with
    | nil=>cases h2
    | cons q qs=>
      obtain ⟨_,_,e,h2,h2'⟩:=h2
      cases e
      rw [List.all_cons,Bool.and_eq_true] at g1 g2
      rw [peqL,rep_same g1.1 g2.1 h1 h2,repL_same g1.2 g2.2 h1' h2']; rfl
end
inductive Kd (H : Hp) (ρ : Tk) (s : Shared) : PV -> Value -> Prop where
  | non : Kd H ρ s .non .none
  | bl (b) : Kd H ρ s (.bl b) (.bool b)
  | int (i t) : Kd H ρ s (.int i) (.int i t)
  | str (x t) : Kd H ρ s (.str x) (.str x t)
  | tup (ps a) (vs : List V) (its : List Value) : H a = some (.tup vs) -> RepL H ρ ps vs -> Vals vs its -> s.heap.IsTuple a its.toArray -> Kd H ρ s (.tup ps) (.ref a)
  | lst (p ps a) (vs : List V) (its : List Value) : (p = .lst ps \/ p = .fro ps) -> RepL H ρ ps vs -> Vals vs its -> s.heap.IsList a its.toArray -> Kd H ρ s p (.ref a)
theorem kd_of {p : PV} {x : V} {u : Value} {n : Nat} (I : Inv X pins σ H s) (g : good n p = true) (r : Rep H ρ p x) (ru : RelV x u) : Kd H ρ s p u:=by
  cases p with
  | non=>cases r; cases ru; exact .non
  | bl b=>cases r; cases ru; exact .bl b
  | int i=>cases r; obtain ⟨t,rfl⟩:=ru; exact .int i t
  | str i=>cases r; obtain ⟨t,rfl⟩:=ru; exact .str i t
  | tup ps=>
    obtain ⟨a,vs,rfl,ha,_,rr⟩:=r
    cases ru
    obtain ⟨its,v1,p1,_⟩:=I.tuple (SqT.of (K:=X.K) ha)
    exact .tup ps a vs its ha rr v1 p1
  | lst ps=>
    obtain ⟨a,vs,rfl,ha,_,rr⟩:=r
    cases ru
    obtain ⟨its,v1,p1,_⟩:=I.list (SqL.of (K:=X.K) ha)
    exact .lst _ ps a vs its (.inl rfl) rr v1 p1.isList
  | fro ps=>
    obtain ⟨a,vs,rfl,ha,_,rr⟩:=r
    cases ru
    obtain ⟨its,v1,p1,_⟩:=I.list (show SqL X.K H a vs from .inl ha)
    exact .lst _ ps a vs its (.inr rfl) rr v1 p1.isList
  | ref i=>cases n <;> cases g
  | dic=>cases n <;> cases g
theorem getD_of {ps : List PV} {vs : List V} {its : List Value} (r : RepL H ρ ps vs) (v : Vals vs its) {j : Nat} (h : j < its.length) : ∃ x,Rep H ρ (ps.getD j .non) x /\ RelV x its[j]:=by
  have l1:=r.length
  have l2:=v.length
  have hj : j < ps.length:=by omega
  obtain ⟨x,e1,e2⟩:=r.get (List.getElem?_eq_getElem hj)
  obtain ⟨u,e3,e4⟩:=v.get e1
  rw [List.getElem?_eq_getElem h] at e3; cases e3
  refine ⟨x,?_,e4⟩
  rw [List.getD,List.getElem?_eq_getElem hj]
  exact e2
theorem good_getD {ps : List PV} {n : Nat} (g : ps.all (good n) = true) (j : Nat) (hj : j < ps.length) : good n (ps.getD j .non) = true:=by
  rw [List.getD,List.getElem?_eq_getElem hj]
  exact (List.all_eq_true.mp g) _ (List.getElem_mem hj)
theorem peqL_range {ps qs : List PV} : ((List.range (min ps.length qs.length)).all (fun j=>peq (ps.getD j .non) (qs.getD j .non)) && ps.length == qs.length) = peqL ps qs:=by
  by_cases e : ps.length = qs.length
  · rw [peqL_all e,<- e,Nat.min_self,beq_self_eq_true,Bool.and_true]
  · rw [peqL_len e,beq_eq_false_iff_ne.mpr e,Bool.and_false]
theorem eqAts : ∀ (n : Nat) {A : Around} {p q : PV} {x y : V} {u v : Value},Inv X pins σ H s -> good n p = true -> good n q = true -> A.units + n < cLine -> Rep H ρ p x -> RelV x u -> Rep H ρ q y -> RelV y v ->
    EqAt A s u v (peq p q) /\ RcAt A s u v (peq p q) /\ RcNeAt A s u v (!peq p q):=by
  intro n
  induction n with
  | zero=>
    intro A p q x y u v I gp gq hu rp ru rq rv
    have k1:=kd_of I gp rp ru
    have k2:=kd_of I gq rq rv
    have hu : A.units < cLine:=by omega
    cases k1 with
    | tup=>cases gp
    | lst p ps a vs its h=>rcases h with rfl | rfl <;> cases gp
    | non=>cases k2 with
      | tup=>cases gq
      | lst p ps a vs its h=>rcases h with rfl | rfl <;> cases gq
      | non=>exact ⟨EqAt.same _,RcAt.none_none,RcNeAt.none_none⟩
      | bl b=>exact ⟨EqAt.none_bool _,RcAt.none_bool _,RcNeAt.none_bool _⟩
      | int i t=>exact ⟨EqAt.none_int _ _,RcAt.none_int _ _,RcNeAt.none_int _ _⟩
      | str i t=>exact ⟨EqAt.none_str _ _,RcAt.none_str _ _,RcNeAt.none_str _ _⟩
    | bl a=>cases k2 with
      | tup=>cases gq
      | lst p ps a vs its h=>rcases h with rfl | rfl <;> cases gq
      | non=>exact ⟨EqAt.bool_none _,RcAt.bool_none _,RcNeAt.bool_none _⟩
      | bl b=>exact ⟨EqAt.bool_bool _ _,RcAt.bool_bool _ _,RcNeAt.bool_bool _ _⟩
      | int i t=>exact ⟨EqAt.bool_int _ _ _,RcAt.bool_int _ _ _,RcNeAt.bool_int _ _ _⟩
      | str i t=>exact ⟨EqAt.bool_str _ _ _,RcAt.bool_str _ _ _,RcNeAt.bool_str _ _ _⟩
    | int a at'=>cases k2 with
      | tup=>cases gq
      | lst p ps a vs its h=>rcases h with rfl | rfl <;> cases gq
      | non=>exact ⟨EqAt.int_none _ _,RcAt.int_none _ _,RcNeAt.int_none _ _⟩
      | bl b=>exact ⟨EqAt.int_bool _ _ _,RcAt.int_bool _ _ _,RcNeAt.int_bool _ _ _⟩
      | int i t=>exact ⟨EqAt.int_int _ _ _ _,RcAt.int_int _ _ _ _,RcNeAt.int_int _ _ _ _⟩
      | str i t=>exact ⟨EqAt.int_str _ _ _ _,RcAt.int_str _ _ _ _,RcNeAt.int_str _ _ _ _⟩
    | str a at'=>cases k2 with
      | tup=>cases gq
      | lst p ps a vs its h=>rcases h with rfl | rfl <;> cases gq
      | non=>exact ⟨EqAt.str_none _ _,RcAt.str_none _ _,RcNeAt.str_none _ _⟩
      | bl b=>exact ⟨EqAt.str_bool _ _ _,RcAt.str_bool _ _ _,RcNeAt.str_bool _ _ _⟩
      | int i t=>exact ⟨EqAt.str_int _ _ _ _,RcAt.str_int _ _ _ _,RcNeAt.str_int _ _ _ _⟩
      | str i t=>exact ⟨EqAt.str_str _ _ _ _,RcAt.str_str _ _ _ _,RcNeAt.str_str _ _ _ _⟩
  | succ n ih=>
    intro A p q x y u v I gp gq hu rp ru rq rv
    have k1:=kd_of I gp rp ru
    have k2:=kd_of I gq rq rv
    have hu0 : A.units < cLine:=by omega
    have hin : A.in1.units + n < cLine:=by show A.units + 1 + n < cLine; omega
    cases k1 with
    | non=>cases k2 with
      | non=>exact ⟨EqAt.same _,RcAt.none_none,RcNeAt.none_none⟩
      | bl b=>exact ⟨EqAt.none_bool _,RcAt.none_bool _,RcNeAt.none_bool _⟩
      | int i t=>exact ⟨EqAt.none_int _ _,RcAt.none_int _ _,RcNeAt.none_int _ _⟩
      | str i t=>exact ⟨EqAt.none_str _ _,RcAt.none_str _ _,RcNeAt.none_str _ _⟩
      | tup ps a vs its ha r v1 p1=>exact ⟨EqAt.none_tuple p1 hu0,RcAt.none_tuple p1 hu0,RcNeAt.none_tuple p1 hu0⟩
      | lst p ps a vs its h r v1 p1=>rcases h with rfl | rfl <;> exact ⟨EqAt.none_list p1 hu0,RcAt.none_list p1 hu0,RcNeAt.none_list p1 hu0⟩
    | bl a=>cases k2 with
      | non=>exact ⟨EqAt.bool_none _,RcAt.bool_none _,RcNeAt.bool_none _⟩
      | bl b=>exact ⟨EqAt.bool_bool _ _,RcAt.bool_bool _ _,RcNeAt.bool_bool _ _⟩
      | int i t=>exact ⟨EqAt.bool_int _ _ _,RcAt.bool_int _ _ _,RcNeAt.bool_int _ _ _⟩
      | str i t=>exact ⟨EqAt.bool_str _ _ _,RcAt.bool_str _ _ _,RcNeAt.bool_str _ _ _⟩
      | tup ps a vs its ha r v1 p1=>exact ⟨EqAt.bool_tuple _ p1 hu0,RcAt.bool_tuple _ p1 hu0,RcNeAt.bool_tuple _ p1 hu0⟩
      | lst p ps a vs its h r v1 p1=>rcases h with rfl | rfl <;> exact ⟨EqAt.bool_list _ p1 hu0,RcAt.bool_list _ p1 hu0,RcNeAt.bool_list _ p1 hu0⟩
    | int a at'=>cases k2 with
      | non=>exact ⟨EqAt.int_none _ _,RcAt.int_none _ _,RcNeAt.int_none _ _⟩
      | bl b=>exact ⟨EqAt.int_bool _ _ _,RcAt.int_bool _ _ _,RcNeAt.int_bool _ _ _⟩
      | int i t=>exact ⟨EqAt.int_int _ _ _ _,RcAt.int_int _ _ _ _,RcNeAt.int_int _ _ _ _⟩
      | str i t=>exact ⟨EqAt.int_str _ _ _ _,RcAt.int_str _ _ _ _,RcNeAt.int_str _ _ _ _⟩
      | tup ps a vs its ha r v1 p1=>exact ⟨EqAt.int_tuple _ _ p1 hu0,RcAt.int_tuple _ _ p1 hu0,RcNeAt.int_tuple _ _ p1 hu0⟩
      | lst p ps a vs its h r v1 p1=>rcases h with rfl | rfl <;> exact ⟨EqAt.int_list _ _ p1 hu0,RcAt.int_list _ _ p1 hu0,RcNeAt.int_list _ _ p1 hu0⟩
    | str a at'=>cases k2 with
      | non=>exact ⟨EqAt.str_none _ _,RcAt.str_none _ _,RcNeAt.str_none _ _⟩
      | bl b=>exact ⟨EqAt.str_bool _ _ _,RcAt.str_bool _ _ _,RcNeAt.str_bool _ _ _⟩
      | int i t=>exact ⟨EqAt.str_int _ _ _ _,RcAt.str_int _ _ _ _,RcNeAt.str_int _ _ _ _⟩
      | str i t=>exact ⟨EqAt.str_str _ _ _ _,RcAt.str_str _ _ _ _,RcNeAt.str_str _ _ _ _⟩
      | tup ps a vs its ha r v1 p1=>exact ⟨EqAt.str_tuple _ _ p1 hu0,RcAt.str_tuple _ _ p1 hu0,RcNeAt.str_tuple _ _ p1 hu0⟩
      | lst p ps a vs its h r v1 p1=>rcases h with rfl | rfl <;> exact ⟨EqAt.str_list _ _ p1 hu0,RcAt.str_list _ _ p1 hu0,RcNeAt.str_list _ _ p1 hu0⟩
    | tup ps a vs its ha r v1 p1=>cases k2 with
      | non=>exact ⟨EqAt.tuple_none p1 hu0,RcAt.tuple_none p1 hu0,RcNeAt.tuple_none p1 hu0⟩
      | bl b=>exact ⟨EqAt.tuple_bool _ p1 hu0,RcAt.tuple_bool _ p1 hu0,RcNeAt.tuple_bool _ p1 hu0⟩
      | int i t=>exact ⟨EqAt.tuple_int _ _ p1 hu0,RcAt.tuple_int _ _ p1 hu0,RcNeAt.tuple_int _ _ p1 hu0⟩
      | str i t=>exact ⟨EqAt.tuple_str _ _ p1 hu0,RcAt.tuple_str _ _ p1 hu0,RcNeAt.tuple_str _ _ p1 hu0⟩
      | tup qs b us its2 hb r2 v2 p2=>
        have l1 : its.toArray.size = ps.length:=by rw [List.size_toArray,<- v1.length,r.length]
        have l2 : its2.toArray.size = qs.length:=by rw [List.size_toArray,<- v2.length,r2.length]
        have he : ∀ j (h1 : j < its.toArray.size) (h2 : j < its2.toArray.size),EqAt A.in1 s its.toArray[j] its2.toArray[j] (peq (ps.getD j .non) (qs.getD j .non)):=fun j h1 h2=>by
          obtain ⟨x1,a1,b1⟩:=getD_of r v1 (j:=j) (by simpa using h1)
          obtain ⟨x2,a2,b2⟩:=getD_of r2 v2 (j:=j) (by simpa using h2)
          exact (ih I (good_getD gp j (by omega)) (good_getD gq j (by omega)) hin a1 b1 a2 b2).1
        have rc:=RcAt.tuples p1 p2 hu0 he
        have rn:=RcNeAt.tuples p1 p2 hu0 he
        rw [l1,l2,peqL_range] at rc rn
        refine ⟨?_,rc,rn⟩
        by_cases e : a = b
        · subst e
          have : peqL ps qs = true:=by
            rw [ha] at hb; cases hb
            exact repL_same gp gq r r2
          show EqAt A s _ _ (peqL ps qs)
          rw [this]
          exact EqAt.same _
        · exact EqAt.of_refs e rc
      | lst q qs b us its2 h r2 v2 p2=>rcases h with rfl | rfl <;> exact ⟨EqAt.tuple_list p1 p2 hu0,RcAt.tuple_list p1 p2 hu0,RcNeAt.tuple_list p1 p2 hu0⟩
    | lst p ps a vs its h r v1 p1=>cases k2 with
      | non=>rcases h with rfl | rfl <;> exact ⟨EqAt.list_none p1 hu0,RcAt.list_none p1 hu0,RcNeAt.list_none p1 hu0⟩
      | bl b=>rcases h with rfl | rfl <;> exact ⟨EqAt.list_bool _ p1 hu0,RcAt.list_bool _ p1 hu0,RcNeAt.list_bool _ p1 hu0⟩
      | int i t=>rcases h with rfl | rfl <;> exact ⟨EqAt.list_int _ _ p1 hu0,RcAt.list_int _ _ p1 hu0,RcNeAt.list_int _ _ p1 hu0⟩
      | str i t=>rcases h with rfl | rfl <;> exact ⟨EqAt.list_str _ _ p1 hu0,RcAt.list_str _ _ p1 hu0,RcNeAt.list_str _ _ p1 hu0⟩
      | tup qs b us its2 hb r2 v2 p2=>rcases h with rfl | rfl <;> exact ⟨EqAt.list_tuple p1 p2 hu0,RcAt.list_tuple p1 p2 hu0,RcNeAt.list_tuple p1 p2 hu0⟩
      | lst q qs b us its2 h2 r2 v2 p2=>
        have l1 : its.toArray.size = ps.length:=by rw [List.size_toArray,<- v1.length,r.length]
        have l2 : its2.toArray.size = qs.length:=by rw [List.size_toArray,<- v2.length,r2.length]
        have gp' : ps.all (good n) = true:=by rcases h with rfl | rfl <;> exact gp
        have gq' : qs.all (good n) = true:=by rcases h2 with rfl | rfl <;> exact gq
        have ep : peq p q = peqL ps qs:=by rcases h with rfl | rfl <;> rcases h2 with rfl | rfl <;> rfl
        have he : ∀ j (h1 : j < its.toArray.size) (h2 : j < its2.toArray.size),EqAt A.in1 s its.toArray[j] its2.toArray[j] (peq (ps.getD j .non) (qs.getD j .non)):=fun j h1 h2=>by
          obtain ⟨x1,a1,b1⟩:=getD_of r v1 (j:=j) (by simpa using h1)
          obtain ⟨x2,a2,b2⟩:=getD_of r2 v2 (j:=j) (by simpa using h2)
          exact (ih I (good_getD gp' j (by omega)) (good_getD gq' j (by omega)) hin a1 b1 a2 b2).1
        rw [ep]
        have rcn : RcAt A s (.ref a) (.ref b) (peqL ps qs) /\ RcNeAt A s (.ref a) (.ref b) (!peqL ps qs):=by
          by_cases e : ps.length = qs.length
          · have rc:=RcAt.lists p1 p2 (by rw [l1,l2,e]) hu0 he
            have rn:=RcNeAt.lists p1 p2 (by rw [l1,l2,e]) hu0 he
            rw [l1,<- peqL_all e] at rc rn
            exact ⟨rc,rn⟩
          · have e' : (its.toArray.size != its2.toArray.size) = true:=by rw [l1,l2]; simpa using e
            rw [peqL_len e]
            exact ⟨RcAt.lists_lengths p1 p2 e' hu0,RcNeAt.lists_lengths p1 p2 e' hu0⟩
        refine ⟨?_,rcn.1,rcn.2⟩
        by_cases e : a = b
        · subst e
          have eq1 : peq p q = true:=by
            have rp':=rp
            have rq':=rq
            have xa : x = .ref a:=by
              rcases h with rfl | rfl <;> (obtain ⟨b',_,rfl,_⟩:=rp; cases ru; rfl)
            have ya : y = .ref a:=by
              rcases h2 with rfl | rfl <;> (obtain ⟨b',_,rfl,_⟩:=rq; cases rv; rfl)
            subst xa; subst ya
            exact rep_same gp gq rp rq
          rw [<- ep,eq1]
          exact EqAt.same _
        · exact EqAt.of_refs e rcn.1
end
end Sm
namespace Sm
open PySem PySem.Spec L2
def lim : Nat:=1000000
theorem lim_le : lim <= sizeLine:=by decide
theorem le_lim {n : Nat} (h : n <= lim) : n <= sizeLine:=Nat.le_trans h lim_le
def lstOf (st : Store) : PV -> Option (List PV)
  | .lst xs=>some xs
  | .ref i=>match st[i]? with
    | some (.lst xs)=>some xs
    | none=>none
  | _=>none
def listOf (st : Store) : PV -> Option (List PV)
  | .fro xs=>some xs
  | p=>lstOf st p
def seqOf (st : Store) : PV -> Option (List PV)
  | .tup xs=>some xs
  | p=>listOf st p
def der (st : Store) : PV -> PV
  | .ref i=>match st[i]? with
    | some (.lst xs)=>.lst xs
    | none=>.ref i
  | p=>p
section
variable {H : Hp} {ρ : Tk} {st : Store} {p : PV} {v : V} {xs : List PV}
theorem lst_at (R : Rel H ρ st) (r : Rep H ρ p v) (e : lstOf st p = some xs) : ∃ a vs,v = .ref a /\ H a = some (.lst vs) /\ RepL H ρ xs vs:=by
  cases p with
  | lst ys=>
    obtain ⟨a,vs,e1,e2,_,e3⟩:=r
    cases e
    exact ⟨a,vs,e1,e2,e3⟩
  | ref i=>
    obtain ⟨a,e1,e2⟩:=r
    simp only [lstOf] at e
    split at e
    · rename_i ys hs
      cases e
      obtain ⟨b,vs,f1,f2,f3⟩:=R.lst hs
      rw [e1] at f1; cases f1
      exact ⟨a,vs,e2,f2,f3⟩
    · cases e
  | _=>cases e
theorem list_at (R : Rel H ρ st) (r : Rep H ρ p v) (e : listOf st p = some xs) : ∃ a vs,v = .ref a /\ Rd H a (.lst vs) /\ RepL H ρ xs vs:=by
  cases p with
  | fro ys=>
    obtain ⟨a,vs,e1,e2,_,e3⟩:=r
    cases e
    exact ⟨a,vs,e1,e2,e3⟩
  | _=>
    obtain ⟨a,vs,e1,e2,e3⟩:=lst_at R r e
    exact ⟨a,vs,e1,.inl e2,e3⟩
theorem seq_at {K : PySem.W.Frag} (R : Rel H ρ st) (r : Rep H ρ p v) (e : seqOf st p = some xs) : ∃ (t : Bool) (a : Addr) (vs : List V),v = .ref a /\ SqK K t H a vs /\ RepL H ρ xs vs:=by
  cases p with
  | tup ys=>
    obtain ⟨a,vs,e1,e2,_,e3⟩:=r
    cases e
    exact ⟨true,a,vs,e1,show SqT K H a vs from SqT.of e2,e3⟩
  | _=>
    obtain ⟨a,vs,e1,e2,e3⟩:=list_at R r e
    exact ⟨false,a,vs,e1,show SqL K H a vs from .inl e2,e3⟩
theorem sqK_or {K : PySem.W.Frag} {t : Bool} {a : Addr} {vs : List V} (h : SqK K t H a vs) : SqL K H a vs \/ SqT K H a vs:=by
  cases t with
  | true=>exact .inr h
  | false=>exact .inl h
mutual
theorem rep_nil : ∀ {n : Nat} {q : PV} {u : V},good n q = true -> Rep H ρ q u -> Rep H Tk.nil q u
  | _,.non,_,_,r=>r
  | _,.bl _,_,_,r=>r
  | _,.int _,_,_,r=>r
  | _,.str _,_,_,r=>r
  | 0,.tup _,_,g,_=>by cases g
  | 0,.lst _,_,g,_=>by cases g
  | 0,.fro _,_,g,_=>by cases g
  | n + 1,.tup _,_,g,⟨a,vs,e,h,_,r⟩=>⟨a,vs,e,h,Tk.not_nil _,repL_nil g r⟩
  | n + 1,.lst _,_,g,⟨a,vs,e,h,_,r⟩=>⟨a,vs,e,h,Tk.not_nil _,repL_nil g r⟩
  | n + 1,.fro _,_,g,⟨a,vs,e,h,_,r⟩=>⟨a,vs,e,h,Tk.not_nil _,repL_nil g r⟩
  | 0,.ref _,_,g,_=>by cases g
  | _ + 1,.ref _,_,g,_=>by cases g
  | 0,.dic,_,g,_=>by cases g
  | _ + 1,.dic,_,g,_=>by cases g
theorem repL_nil : ∀ {n : Nat} {qs : List PV} {us : List V},qs.all (good n) = true -> RepL H ρ qs us -> RepL H Tk.nil qs us
  | _,[],_,_,r=>r
  | n,q :: qs,_,g,⟨v,r,e,h1,h2⟩=>by
    rw [List.all_cons,Bool.and_eq_true] at g
    exact ⟨v,r,e,rep_nil g.1 h1,repL_nil g.2 h2⟩
end
theorem der_rep (R : Rel H ρ st) {n : Nat} (g : good n (der st p) = true) (r : Rep H ρ p v) : Rep H Tk.nil (der st p) v:=by
  cases p with
  | ref i=>
    obtain ⟨a,e1,e2⟩:=r
    simp only [der] at g ⊢
    split at g
    · rename_i ys hs
      obtain ⟨b,vs,f1,f2,f3⟩:=R.lst hs
      rw [e1] at f1; cases f1
      cases n with
      | zero=>cases g
      | succ n=>exact ⟨a,vs,e2,f2,Tk.not_nil _,repL_nil g f3⟩
    · cases n <;> cases g
  | _=>exact rep_nil g r
theorem new_tup {mg : Str -> Option Value} {E : XK} {Q : VK} {ps : List PV} {vs : List V} (R : Rel H ρ st) (h : Acc mg E H ρ (QV Q) (.ok (.tup ps) st)) (r : RepL H ρ ps vs) : ∀ p,H p = none -> Q (.ref p) (upd H p (.tup vs)):=
  fun p hp=>h _ ρ (Ext.add hp) (R.add hp) _ ⟨p,vs,rfl,upd_same,R.fresh hp,r.ext (Ext.add hp)⟩
theorem new_lst {mg : Str -> Option Value} {E : XK} {Q : VK} {ps : List PV} {vs : List V} (R : Rel H ρ st) (h : Acc mg E H ρ (QV Q) (.ok (.lst ps) st)) (r : RepL H ρ ps vs) : ∀ p,H p = none -> Q (.ref p) (upd H p (.lst vs)):=
  fun p hp=>h _ ρ (Ext.add hp) (R.add hp) _ ⟨p,vs,rfl,upd_same,R.fresh hp,r.ext (Ext.add hp)⟩
theorem now {mg : Str -> Option Value} {E : XK} {Q : VK} {p : PV} (R : Rel H ρ st) (h : Acc mg E H ρ (QV Q) (.ok p st)) (r : Rep H ρ p v) : Q v H:=h H ρ (Ext.refl _ _) R v r
end
section
variable {X : Cx} {E : XK} {pos : Pos}
def mVar (i : Nat) : ME:=fun Γ st=>match Γ[i]? with
  | some (some p)=>.ok p st
  | _=>.stuck
def mC (p : PV) : ME:=fun _ st=>.ok p st
theorem se_var (i : Nat) {x : Str} (hN : X.N[i]? = some x:=by rfl) (hv : Vis X.env.scope x:=by first | exact Or.inl rfl | exact Or.inr (Or.inl rfl) | exact Or.inr (Or.inr rfl)) (hd : (x == ("__debug__" : Str)) = false:=by decide)
    (hcd : (x == ("__classdict__" : Str)) = false:=by decide) : SimE X E (.Name x pos) (mVar i):=⟨fun Γ σ H ρ st Q R G h=>WE.of (pe_var hN hv hd hcd) (by
  unfold mVar at h
  split at h
  · rename_i p e
    obtain ⟨v,e1,r⟩:=G.2 i p e
    exact ⟨v,e1,now R h r⟩
  · exact h.elim)⟩
theorem se_int {i : Int} {j : Nat} : SimE X E (.Constant (.int i) j pos) (mC (.int i)):=⟨fun Γ σ H ρ st Q R G h=>WE.of pe_int (now R h rfl)⟩
theorem se_bl {b : Bool} {j : Nat} : SimE X E (.Constant (.bool b) j pos) (mC (.bl b)):=⟨fun Γ σ H ρ st Q R G h=>WE.of pe_bl (now R h rfl)⟩
theorem se_non {j : Nat} : SimE X E (.Constant .none j pos) (mC .non):=⟨fun Γ σ H ρ st Q R G h=>WE.of pe_non (now R h rfl)⟩
theorem se_str {x : Str} {j : Nat} : SimE X E (.Constant (.str x) j pos) (mC (.str x)):=⟨fun Γ σ H ρ st Q R G h=>WE.of pe_str (now R h rfl)⟩
theorem se_gint {x : Str} {i : Int} {t : Tok} (hg : Gl X x) (hm : X.mg x = some (.int i t)) (hd : (x == ("__debug__" : Str)) = false:=by decide) : SimE X E (.Name x pos) (mC (.int i)):=
  ⟨fun Γ σ H ρ st Q R G h=>WE.of (pe_glob hg hm (v:=.int i) ⟨t,rfl⟩ hd) (now R h rfl)⟩
variable {a b c : Expr} {ma mb mc : ME}
def mOp (o : OP) (ma mb : ME) : ME:=fun Γ st=>(ma Γ st).bind fun x st1=>(mb Γ st1).bind fun y st2=>o st2 x y
theorem bin_run {f : Value -> Value -> Sem Value} {o : OP} {Γ : Gam} {σ : St} {H : Hp} {ρ : Tk} {st : Store} {P : PV -> Store -> Hp -> Tk -> Prop} {Q : VK} (ho : OpS X E f o) (ha : SimE X E a ma) (hb : SimE X E b mb) (R : Rel H ρ st) (G : EnvR H ρ Γ σ) (h : Acc X.mg E H ρ P (mOp o ma mb Γ st))
    (k : ∀ p st1 H1 ρ1 v,Ext H ρ H1 ρ1 -> Rel H1 ρ1 st1 -> Rep H1 ρ1 p v -> P p st1 H1 ρ1 -> Q v H1) : tOp (WO X f) (WE X a) (WE X b) σ H Q:=by
  refine ha.use R G h.bind fun p st1 H1 ρ1 v x1 R1 G1 r1 h1=>?_
  refine hb.use R1 G1 h1.bind fun q st2 H2 ρ2 u x2 R2 G2 r2 h2=>?_
  exact ho.use R2 (r1.ext x2) r2 h2 fun w st3 H3 ρ3 z x3 R3 r3 p3=>k w st3 H3 ρ3 z (x1.trans (x2.trans x3)) R3 r3 p3
theorem se_op {op : Operator} {o : OP} (ho : OpS X E (binaryOp op) o) (ha : SimE X E a ma) (hb : SimE X E b mb) : SimE X E (.BinOp a op b pos) (mOp o ma mb):=
  ⟨fun Γ σ H ρ st Q R G h=>WE.of (pe_op op_w pe_w pe_w) (bin_run ho ha hb R G h fun _ _ _ _ v _ _ r q=>q v r)⟩
theorem se_cmp {op : CmpOp} {o : OP} (ho : OpS X E (compareOp op) o) (ha : SimE X E a ma) (hb : SimE X E b mb) (hm : behindInMarks op b = false:=by first | exact nomark _ | rfl) : SimE X E (.Compare a [op] [b] pos) (mOp o ma mb):=
  ⟨fun Γ σ H ρ st Q R G h=>WE.of (pe_cmpR op_w pe_w pe_w hm) (bin_run ho ha hb R G h fun _ _ _ _ v _ _ r q=>q v r)⟩
def asB (p : PV) (st : Store) : Res Bool:=match p with
  | .bl k=>.ok k st
  | _=>.stuck
def toB (m : ME) : Gam -> Store -> Res Bool:=fun Γ st=>(m Γ st).bind asB
theorem acc_b {mg : Str -> Option Value} {H : Hp} {ρ : Tk} {st : Store} {p : PV} {v : V} {P : Bool -> Store -> Hp -> Tk -> Prop} (R : Rel H ρ st) (r : Rep H ρ p v) (h : Acc mg E H ρ P (asB p st)) : ∃ k,v = .bl k /\ P k st H ρ:=by
  cases p with
  | bl k=>exact ⟨k,r,h H ρ (Ext.refl _ _) R⟩
  | _=>exact h.elim
theorem st_cmp {op : CmpOp} {o : OP} (ho : OpS X E (compareOp op) o) (ha : SimE X E a ma) (hb : SimE X E b mb) (hm : behindInMarks op b = false:=by first | exact nomark _ | rfl) : SimT X E (.Compare a [op] [b] pos) (toB (mOp o ma mb)):=
  ⟨fun Γ σ H ρ st Q R G h=>WT.of (pt_cmpR op_w pe_w pe_w hm) (bin_run ho ha hb R G h.bind fun _ st1 _ _ v _ R1 r q=>by
    obtain ⟨k,e,z⟩:=acc_b R1 r q
    exact ⟨k,e,z⟩)⟩
theorem st_val {e : Expr} {m : ME} (h : SimE X E e m) (he : ∀ whole,isTrue e X.env whole = (do let v <- whole; standAt e.pos; holding [v] (truthy v)):=by intro _; rfl) : SimT X E e (toB m):=
  ⟨fun Γ σ H ρ st Q R G hq=>WT.of (pt_val pe_w he) (h.use R G hq.bind fun p st1 H1 ρ1 v x1 R1 G1 r1 h1=>by
    obtain ⟨k,e,z⟩:=acc_b R1 r1 h1
    exact ⟨k,e,z⟩)⟩
def mChain (o o' : OP) (ma mb mc : ME) : ME:=fun Γ st=>(ma Γ st).bind fun x st1=>(mb Γ st1).bind fun y st2=>(o st2 x y).bind fun k st3=>match k with
  | .bl true=>(mc Γ st3).bind fun z st4=>o' st4 y z
  | .bl false=>.ok (.bl false) st3
  | _=>.stuck
theorem chain_run {op op' : CmpOp} {o o' : OP} {Γ : Gam} {σ : St} {H : Hp} {ρ : Tk} {st : Store} {P : PV -> Store -> Hp -> Tk -> Prop} {Q : VK} (ho : OpS X E (compareOp op) o) (ho' : OpS X E (compareOp op') o') (ha : SimE X E a ma) (hb : SimE X E b mb) (hc : SimE X E c mc) (R : Rel H ρ st) (G : EnvR H ρ Γ σ) (h : Acc X.mg E H ρ P (mChain o o' ma mb mc Γ st))
    (k : ∀ p st1 H1 ρ1 v,Ext H ρ H1 ρ1 -> Rel H1 ρ1 st1 -> Rep H1 ρ1 p v -> P p st1 H1 ρ1 -> Q v H1) : tChain (WO X (compareOp op)) (WO X (compareOp op')) (WE X a) (WE X b) (WE X c) σ H Q:=by
  refine ha.use R G h.bind fun p st1 H1 ρ1 v x1 R1 G1 r1 h1=>?_
  refine hb.use R1 G1 h1.bind fun q st2 H2 ρ2 u x2 R2 G2 r2 h2=>?_
  refine ho.use R2 (r1.ext x2) r2 h2.bind fun w st3 H3 ρ3 z x3 R3 r3 h3=>?_
  cases w with
  | bl b=>
    refine ⟨b,r3,?_⟩
    cases b with
    | true=>
      rw [if_pos rfl]
      refine hc.use R3 (G2.ext x3) h3.bind fun y st4 H4 ρ4 yv x4 R4 G4 r4 h4=>?_
      exact ho'.use R4 (r2.ext (x3.trans x4)) r4 h4 fun w st5 H5 ρ5 z x5 R5 r5 p5=>k w st5 H5 ρ5 z (x1.trans (x2.trans (x3.trans (x4.trans x5)))) R5 r5 p5
    | false=>
      rw [if_neg Bool.false_ne_true]
      exact k (.bl false) _ H3 ρ3 _ (x1.trans (x2.trans x3)) R3 rfl (h3 H3 ρ3 (Ext.refl _ _) R3)
  | _=>exact h3.elim
theorem se_chain {op op' : CmpOp} {o o' : OP} (ho : OpS X E (compareOp op) o) (ho' : OpS X E (compareOp op') o') (ha : SimE X E a ma) (hb : SimE X E b mb) (hc : SimE X E c mc) (hm : lastMarks [op,op'] [b,c] = false:=by with_unfolding_all rfl) : SimE X E (.Compare a [op,op'] [b,c] pos) (mChain o o' ma mb mc):=
  ⟨fun Γ σ H ρ st Q R G h=>WE.of (pe_chain op_w op_w pe_w pe_w pe_w hm) (chain_run ho ho' ha hb hc R G h fun _ _ _ _ v _ _ r q=>q v r)⟩
theorem st_chain {op op' : CmpOp} {o o' : OP} (ho : OpS X E (compareOp op) o) (ho' : OpS X E (compareOp op') o') (ha : SimE X E a ma) (hb : SimE X E b mb) (hc : SimE X E c mc) (hm : lastMarks [op,op'] [b,c] = false:=by with_unfolding_all rfl) : SimT X E (.Compare a [op,op'] [b,c] pos) (toB (mChain o o' ma mb mc)):=
  ⟨fun Γ σ H ρ st Q R G h=>WT.of (pt_chain op_w op_w pe_w pe_w pe_w hm) (chain_run ho ho' ha hb hc R G h.bind fun _ st1 _ _ v _ R1 r q=>by
    obtain ⟨k,e,z⟩:=acc_b R1 r q
    exact ⟨k,e,z⟩)⟩
variable {rest : List Expr}
def mAnd (ma mb : ME) : ME:=fun Γ st=>(ma Γ st).bind fun x st1=>match x with
  | .bl true=>mb Γ st1
  | .bl false=>.ok (.bl false) st1
  | _=>.stuck
def mOr (ma mb : ME) : ME:=fun Γ st=>(ma Γ st).bind fun x st1=>match x with
  | .bl true=>.ok (.bl true) st1
  | .bl false=>mb Γ st1
  | _=>.stuck
def mNot (ma : ME) : ME:=fun Γ st=>(ma Γ st).bind fun x st1=>match x with
  | .bl k=>.ok (.bl (!k)) st1
  | _=>.stuck
theorem se_one {op : BoolOp} (ha : SimE X E a ma) : SimE X E (.BoolOp op [a] pos) ma:=⟨fun Γ σ H ρ st Q R G h=>WE.of (pe_one pe_w) (ha.use R G h fun _ _ _ _ v _ _ _ r q=>q v r)⟩
theorem se_and (ha : SimE X E a ma) (hb : SimE X E (.BoolOp .And (b :: rest) pos) mb) : SimE X E (.BoolOp .And (a :: b :: rest) pos) (mAnd ma mb):=
  ⟨fun Γ σ H ρ st Q R G h=>WE.of (pe_and pe_w pe_w) (ha.use R G h.bind fun p st1 H1 ρ1 v x1 R1 G1 r1 h1=>by
    cases p with
    | bl k=>
      refine ⟨k,r1,?_⟩
      cases k with
      | true=>rw [if_pos rfl]; exact hb.use R1 G1 h1 fun _ _ _ _ v _ _ _ r q=>q v r
      | false=>rw [if_neg Bool.false_ne_true]; exact now R1 h1 rfl
    | _=>exact h1.elim)⟩
theorem se_or (ha : SimE X E a ma) (hb : SimE X E (.BoolOp .Or (b :: rest) pos) mb) : SimE X E (.BoolOp .Or (a :: b :: rest) pos) (mOr ma mb):=
  ⟨fun Γ σ H ρ st Q R G h=>WE.of (pe_or pe_w pe_w) (ha.use R G h.bind fun p st1 H1 ρ1 v x1 R1 G1 r1 h1=>by
    cases p with
    | bl k=>
      refine ⟨k,r1,?_⟩
      cases k with
      | true=>rw [if_pos rfl]; exact now R1 h1 rfl
      | false=>rw [if_neg Bool.false_ne_true]; exact hb.use R1 G1 h1 fun _ _ _ _ v _ _ _ r q=>q v r
    | _=>exact h1.elim)⟩
theorem se_not (ha : SimE X E a ma) : SimE X E (.UnaryOp .Not a pos) (mNot ma):=
  ⟨fun Γ σ H ρ st Q R G h=>WE.of (pe_not pe_w) (ha.use R G h.bind fun p st1 H1 ρ1 v x1 R1 G1 r1 h1=>by
    cases p with
    | bl k=>exact ⟨k,r1,now R1 h1 rfl⟩
    | _=>exact h1.elim)⟩
def mNeg (ma : ME) : ME:=fun Γ st=>(ma Γ st).bind fun x st1=>match x with
  | .int k=>.ok (.int (-k)) st1
  | _=>.stuck
theorem se_neg (ha : SimE X E a ma) : SimE X E (.UnaryOp .USub a pos) (mNeg ma):=
  ⟨fun Γ σ H ρ st Q R G h=>WE.of (pe_un un_neg pe_w) (ha.use R G h.bind fun p st1 H1 ρ1 v x1 R1 G1 r1 h1=>by
    cases p with
    | int k=>exact ⟨k,r1,now R1 h1 rfl⟩
    | _=>exact h1.elim)⟩
abbrev MT:=Gam -> Store -> Res Bool
variable {ta tb : MT}
def tAndM (ta tb : MT) : MT:=fun Γ st=>(ta Γ st).bind fun k st1=>if k = true then tb Γ st1 else .ok false st1
def tOrM (ta tb : MT) : MT:=fun Γ st=>(ta Γ st).bind fun k st1=>if k = true then .ok true st1 else tb Γ st1
def tNotM (ta : MT) : MT:=fun Γ st=>(ta Γ st).bind fun k st1=>.ok (!k) st1
theorem SimW.t {e : Expr} (h : SimW X E e ta) : SimT X E e ta:=⟨fun Γ σ H ρ st Q R G q pins s I=>h.run Γ σ H ρ st Q R G q _ pins s I⟩
theorem sw_and1 (ha : SimT X E a ta) : SimW X E (.BoolOp .And [a] pos) ta:=⟨fun Γ σ H ρ st Q R G h=>WW.of (pw_and1 pt_w) (ha.use R G h fun _ _ _ _ _ _ _ q=>q)⟩
theorem sw_or1 (ha : SimT X E a ta) : SimW X E (.BoolOp .Or [a] pos) ta:=⟨fun Γ σ H ρ st Q R G h=>WW.of (pw_or1 pt_w) (ha.use R G h fun _ _ _ _ _ _ _ q=>q)⟩
theorem sw_and (ha : SimT X E a ta) (hb : SimW X E (.BoolOp .And (b :: rest) pos) tb) : SimW X E (.BoolOp .And (a :: b :: rest) pos) (tAndM ta tb):=
  ⟨fun Γ σ H ρ st Q R G h=>WW.of (pw_and pt_w pw_w) (ha.use R G h.bind fun k st1 H1 ρ1 x1 R1 G1 h1=>by
    cases k with
    | true=>rw [if_pos rfl] at h1 ⊢; exact hb.use R1 G1 h1 fun _ _ _ _ _ _ _ q=>q
    | false=>rw [if_neg Bool.false_ne_true] at h1 ⊢; exact h1 H1 ρ1 (Ext.refl _ _) R1)⟩
theorem sw_or (ha : SimT X E a ta) (hb : SimW X E (.BoolOp .Or (b :: rest) pos) tb) : SimW X E (.BoolOp .Or (a :: b :: rest) pos) (tOrM ta tb):=
  ⟨fun Γ σ H ρ st Q R G h=>WW.of (pw_or pt_w pw_w) (ha.use R G h.bind fun k st1 H1 ρ1 x1 R1 G1 h1=>by
    cases k with
    | true=>rw [if_pos rfl] at h1 ⊢; exact h1 H1 ρ1 (Ext.refl _ _) R1
    | false=>rw [if_neg Bool.false_ne_true] at h1 ⊢; exact hb.use R1 G1 h1 fun _ _ _ _ _ _ _ q=>q)⟩
theorem st_not (ha : SimT X E a ta) : SimT X E (.UnaryOp .Not a pos) (tNotM ta):=
  ⟨fun Γ σ H ρ st Q R G h=>WT.of (pt_not pt_w) (ha.use R G h.bind fun k st1 H1 ρ1 x1 R1 G1 h1=>h1 H1 ρ1 (Ext.refl _ _) R1)⟩
def mIf (tc : MT) (ma mb : ME) : ME:=fun Γ st=>(tc Γ st).bind fun k st1=>if k = true then ma Γ st1 else mb Γ st1
variable {e : Expr} {es : List Expr} {m : ME} {mr : Gam -> Store -> Res (List PV)}
def mNil : Gam -> Store -> Res (List PV):=fun _ st=>.ok [] st
def mCons (m : ME) (mr : Gam -> Store -> Res (List PV)) : Gam -> Store -> Res (List PV):=fun Γ st=>(m Γ st).bind fun p st1=>(mr Γ st1).bind fun ps st2=>.ok (p :: ps) st2
theorem sa_nil : SimA X E [] mNil:=⟨fun Γ σ H ρ st Q R G h=>WA.of pa_nil (h H ρ (Ext.refl _ _) R [] rfl)⟩
theorem sa_cons (ha : SimE X E e m) (hr : SimA X E es mr) (hs : starEach (e :: es) X.env = (false,eval e X.env) :: starEach es X.env:=by rfl) : SimA X E (e :: es) (mCons m mr):=
  ⟨fun Γ σ H ρ st Q R G h=>WA.of (pa_cons pe_w pa_w hs) (ha.use R G h.bind fun p st1 H1 ρ1 v x1 R1 G1 r1 h1=>hr.use R1 G1 h1.bind fun ps st2 H2 ρ2 vs x2 R2 G2 r2 h2=>
    h2 H2 ρ2 (Ext.refl _ _) R2 (v :: vs) ⟨v,vs,rfl,r1.ext x2,r2⟩)⟩
def mTup (mr : Gam -> Store -> Res (List PV)) : ME:=fun Γ st=>(mr Γ st).bind fun ps st1=>if ps.length <= lim then .ok (.tup ps) st1 else .stuck
def mLst (mr : Gam -> Store -> Res (List PV)) : ME:=fun Γ st=>(mr Γ st).bind fun ps st1=>if ps.length <= lim then .ok (.lst ps) st1 else .stuck
theorem se_tup {k : Nat} (h : SimA X E es mr) : SimE X E (.Tuple es k pos) (mTup mr):=
  ⟨fun Γ σ H ρ st Q R G hq=>WE.of (pe_tup pa_w) (h.use R G hq.bind fun ps st1 H1 ρ1 vs x1 R1 G1 r1 h1=>by
    by_cases hl : ps.length <= lim
    · rw [if_pos hl] at h1
      exact ⟨by rw [<- r1.length]; exact le_lim hl,new_tup R1 h1 r1⟩
    · rw [if_neg hl] at h1; exact h1.elim)⟩
theorem se_lst (h : SimA X E es mr) : SimE X E (.List es pos) (mLst mr):=
  ⟨fun Γ σ H ρ st Q R G hq=>WE.of (pe_lst pa_w) (h.use R G hq.bind fun ps st1 H1 ρ1 vs x1 R1 G1 r1 h1=>by
    by_cases hl : ps.length <= lim
    · rw [if_pos hl] at h1
      exact ⟨by rw [<- r1.length]; exact le_lim hl,new_lst R1 h1 r1⟩
    · rw [if_neg hl] at h1; exact h1.elim)⟩
end
end Sm
namespace HT
open PySem PySem.Spec PyProof.Rows
section
variable {prog : Program} {w : World} {A : Around} {E : Value -> Shared -> Prop} {s : Shared}
theorem getItem_tuple_whole {t sl : Addr} {items : Array Value} {vl vu : Value} {lo hi : Option Int} {Q : Value -> Shared -> Prop} (ht : IsTup s.heap t items) (hs : s.heap.IsSliceOf sl vl vu .none) (pl : IsPart vl lo) (pu : IsPart vu hi)
    (hw : sIx items.size 0 lo = 0 /\ sIx items.size items.size hi = items.size)
    (h : Q (.ref t) s) : wpAny (model prog w) A (getItem (.ref t) (.ref sl)) Q E s:=by
  obtain ⟨os,hos,hcs,hds⟩:=id hs
  have hTs : s.TypeIs (.ref sl) "slice" := ⟨os,hos,hcs⟩
  unfold getItem
  try with_reducible refine wpAny_holding ?_
  first | refine wpAny_bind (wpAny_pure ?_) | skip
  refine wpAny_bind (wpAny_sequenceKey ht.typeIs (by decide) ?_)
  refine wpAny_bind (wpAny_callSpecial?_slot (name:=Str.ofString "__getitem__") ht.typeIs PyProof.Rows.slot_tuple_getitem
    (wpAny_call_entry PyProof.Rows.slot_tuple_getitem ht.typeIs entry_tuple_getitem ?_ (args_tuple_getitem _ _)))
  show wpAny _ _ (Builtin.Tuple.tupleItemsOf (.ref t) >>= _) _ _ s
  refine wpAny_bind (tupleItemsOf_ ht ?_)
  refine wpAny_bind (wpAny_typeOf hTs ?_)
  rw [if_pos (by decide)]
  refine wpAny_bind (sliceApplied_gen hs pl pu ?_)
  have hyes : (((sIx items.size 0 lo : Nat) : Int) == 0 && (1 : Int) == 1 && (sIx items.size items.size hi - sIx items.size 0 lo) == items.size) = true:=by
    rw [hw.1,hw.2]; simp
  show wpAny _ _ (if (((sIx items.size 0 lo : Nat) : Int) == 0 && (1 : Int) == 1 && (sIx items.size items.size hi - sIx items.size 0 lo) == items.size) = true then _ else _) _ _ s
  rw [if_pos hyes]
  refine wpAny_bind (wpAny_bind (wpAny_typeOf ht.typeIs (wpAny_pure ?_)))
  rw [if_pos (by rfl)]
  exact wpAny_bind (wpAny_rule (wpAny_pure ⟨_,rfl,wpAny_pure h⟩))
end
end HT
namespace L2
open PySem PySem.Spec PyProof.Rows
def rSlW (K : PySem.W.Frag) : V -> Option Int -> Option Int -> Hp -> VK -> Prop:=fun x lo hi H Q=>∃ a xs,x = .ref a /\ SqT K H a xs /\
  (HT.sIx xs.length 0 lo = 0 /\ HT.sIx xs.length xs.length hi = xs.length) /\ Q (.ref a) H
theorem sl_whole {X : Cx} : SlR X (rSlW X.K):=by
  intro pins s σ H x v vl vu lo hi sl Q I rx hs pl pu h
  obtain ⟨a,xs,rfl,hx,hw,q⟩:=h
  cases rx
  obtain ⟨its,r,ht,hz⟩:=I.tuple hx
  have hlen : its.toArray.size = xs.length:=by rw [List.size_toArray]; exact r.length.symm
  refine ⟨"tuple",_,PyProof.Rows.slot_tuple_getitem.lookup,ht.typeIs,?_⟩
  exact HT.getItem_tuple_whole ht hs pl pu (by rw [hlen]; exact hw) ⟨.ref a,H,I,rfl,q⟩
end L2
namespace Sm
open PySem PySem.Spec L2
section
variable {X : Cx} {E : XK} {pos : Pos}
def oI (g : Int -> Int -> PV) : OP:=fun st p q=>match p,q with
  | .int a,.int b=>.ok (g a b) st
  | _,_=>.stuck
def oAdd : OP:=fun st p q=>match p,q with
  | .int a,.int b=>.ok (.int (a + b)) st
  | .str a,.str b=>if a.length + b.length <= lim then .ok (.str (a ++ b)) st else .stuck
  | .tup xs,.tup ys=>if xs.length + ys.length <= lim then .ok (.tup (xs ++ ys)) st else .stuck
  | p,q=>match lstOf st p,lstOf st q with
    | some xs,some ys=>if xs.length + ys.length <= lim then .ok (.lst (xs ++ ys)) st else .stuck
    | _,_=>.stuck
theorem os_add : OpS X E (binaryOp .Add) oAdd:=⟨fun H ρ st p q x y Q R rp rq h=>by
  unfold oAdd at h
  split at h
  · cases rp; cases rq
    exact WO.of op_add ⟨_,_,rfl,rfl,now R h rfl⟩
  · cases rp; cases rq
    split at h
    · rename_i hl
      exact WO.of op_add_str ⟨_,_,rfl,rfl,le_lim hl,now R h rfl⟩
    · exact h.elim
  · split at h
    · rename_i xs ys hl
      obtain ⟨a,vs,rfl,ha,na,ra⟩:=rp
      obtain ⟨b,us,rfl,hb,nb,rb⟩:=rq
      refine WO.of op_cat2 ?_
      by_cases e : xs = []
      · subst e
        cases ra
        exact .inr ⟨a,b,us,rfl,rfl,SqT.of ha,SqT.of hb,now R h ⟨b,us,rfl,hb,nb,rb⟩⟩
      · refine .inl ⟨a,b,vs,us,rfl,rfl,SqT.of ha,SqT.of hb,fun z=>e ?_,by rw [<- ra.length,<- rb.length]; exact le_lim hl,fun z=>?_,fun z=>new_tup R h (ra.append rb)⟩
        · subst z
          cases xs with
          | nil=>rfl
          | cons _ _=>have:=ra.length; simp at this
        · subst z
          have : ys = []:=by
            cases ys with
            | nil=>rfl
            | cons _ _=>have:=rb.length; simp at this
          subst this
          rw [List.append_nil] at h
          exact now R h ⟨a,vs,rfl,ha,na,ra⟩
    · exact h.elim
  · split at h
    · rename_i xs ys e1 e2
      split at h
      · rename_i hl
        obtain ⟨a,vs,rfl,ha,ra⟩:=lst_at R rp e1
        obtain ⟨b,us,rfl,hb,rb⟩:=lst_at R rq e2
        exact WO.of op_cat ⟨a,b,vs,us,rfl,rfl,ha,hb,by rw [<- ra.length,<- rb.length]; exact le_lim hl,new_lst R h (ra.append rb)⟩
      · exact h.elim
    · exact h.elim⟩
theorem os_sub : OpS X E (binaryOp .Sub) (oI fun a b=>.int (a - b)):=⟨fun H ρ st p q x y Q R rp rq h=>by
  unfold oI at h
  split at h
  · cases rp; cases rq
    exact WO.of op_sub ⟨_,_,rfl,rfl,now R h rfl⟩
  · exact h.elim⟩
def oMul : OP:=fun st p q=>match p,q with
  | .int a,.int b=>if (-(2 ^ 64) < a /\ a < 2 ^ 64) \/ (-(2 ^ 64) < b /\ b < 2 ^ 64) then .ok (.int (a * b)) st else .stuck
  | .tup xs,.int b=>if xs ≠ [] /\ 1 <= b /\ xs.length * b.toNat <= 4096 then .ok (.tup (List.replicate b.toNat xs).flatten) st else .stuck
  | p,.int b=>match lstOf st p with
    | some xs=>if -(2 ^ 63) <= b /\ b < 2 ^ 63 /\ xs.length * b.toNat <= lim then .ok (.lst (List.replicate b.toNat xs).flatten) st else .stuck
    | none=>.stuck
  | _,_=>.stuck
theorem os_mul : OpS X E (binaryOp .Mult) oMul:=⟨fun H ρ st p q x y Q R rp rq h=>by
  unfold oMul at h
  split at h
  · cases rp; cases rq
    split at h
    · rename_i hc
      exact WO.of op_mul ⟨_,_,rfl,rfl,hc,now R h rfl⟩
    · exact h.elim
  · cases rq
    split at h
    · rename_i xs b hc
      obtain ⟨a,vs,rfl,ha,na,ra⟩:=rp
      refine WO.of op_repT ⟨a,b,vs,rfl,rfl,SqT.of ha,fun z=>hc.1 ?_,hc.2.1,by rw [<- ra.length]; exact hc.2.2,fun z=>?_,fun z=>new_tup R h (ra.rep _)⟩
      · subst z
        cases xs with
        | nil=>rfl
        | cons _ _=>have:=ra.length; simp at this
      · subst z
        have e1 : (List.replicate (Int.toNat 1) xs).flatten = xs:=by simp
        rw [e1] at h
        exact now R h ⟨a,vs,rfl,ha,na,ra⟩
    · exact h.elim
  · cases rq
    split at h
    · rename_i xs e1
      split at h
      · rename_i hc
        obtain ⟨a,vs,rfl,ha,ra⟩:=lst_at R rp e1
        exact WO.of op_rep ⟨a,_,vs,rfl,rfl,ha,hc.1,hc.2.1,by rw [<- ra.length]; exact le_lim hc.2.2,new_lst R h (ra.rep _)⟩
      · exact h.elim
    · exact h.elim
  · exact h.elim⟩
def oMod : OP:=fun st p q=>match p,q with
  | .int a,.int b=>if 0 < b then .ok (.int (a % b)) st else .stuck
  | _,_=>.stuck
theorem os_mod : OpS X E (binaryOp .Mod) oMod:=⟨fun H ρ st p q x y Q R rp rq h=>by
  unfold oMod at h
  split at h
  · cases rp; cases rq
    split at h
    · rename_i hc
      exact WO.of op_mod ⟨_,_,rfl,rfl,hc,now R h rfl⟩
    · exact h.elim
  · exact h.elim⟩
def oDiv : OP:=fun st p q=>match p,q with
  | .int a,.int b=>if 0 < b /\ b < 1073741824 then .ok (.int (a / b)) st else .stuck
  | _,_=>.stuck
theorem os_div : OpS X E (binaryOp .FloorDiv) oDiv:=⟨fun H ρ st p q x y Q R rp rq h=>by
  unfold oDiv at h
  split at h
  · cases rp; cases rq
    split at h
    · rename_i hc
      exact WO.of op_fdiv ⟨_,_,rfl,rfl,hc,now R h rfl⟩
    · exact h.elim
  · exact h.elim⟩
def oPow : OP:=fun st p q=>match p,q with
  | .int a,.int b=>if 0 <= b /\ b <= 1000000 /\ a.natAbs < 2 ^ 64 then .ok (.int (a ^ b.toNat)) st else .stuck
  | _,_=>.stuck
theorem os_pow : OpS X E (binaryOp .Pow) oPow:=⟨fun H ρ st p q x y Q R rp rq h=>by
  unfold oPow at h
  split at h
  · cases rp; cases rq
    split at h
    · rename_i hc
      exact WO.of op_pow ⟨_,_,rfl,rfl,hc,now R h rfl⟩
    · exact h.elim
  · exact h.elim⟩
theorem oI_cmp {op : CmpOp} {g : Int -> Int -> Bool} (ho : OpR X (compareOp op) (rI0 fun i j=>.bl (g i j))) : OpS X E (compareOp op) (oI fun a b=>.bl (g a b)):=⟨fun H ρ st p q x y Q R rp rq h=>by
  unfold oI at h
  split at h
  · cases rp; cases rq
    exact WO.of ho ⟨_,_,rfl,rfl,now R h rfl⟩
  · exact h.elim⟩
theorem os_le : OpS X E (compareOp .LtE) (oI fun a b=>.bl (decide (a <= b))):=oI_cmp op_le
theorem os_gt : OpS X E (compareOp .Gt) (oI fun a b=>.bl (decide (b < a))):=oI_cmp op_gt
theorem os_ge : OpS X E (compareOp .GtE) (oI fun a b=>.bl (decide (b <= a))):=oI_cmp op_ge
def intsOf : List PV -> Option (List Int)
  | []=>some []
  | .int i :: ps=>(intsOf ps).map (i :: ·)
  | _ :: _=>none
def blsOf : List PV -> Option (List Bool)
  | []=>some []
  | .bl i :: ps=>(blsOf ps).map (i :: ·)
  | _ :: _=>none
theorem ints_map (ns : List Int) : intsOf (ns.map .int) = some ns:=by
  induction ns with
  | nil=>rfl
  | cons n ns ih=>rw [List.map_cons,intsOf,ih]; rfl
theorem bls_map (ns : List Bool) : blsOf (ns.map .bl) = some ns:=by
  induction ns with
  | nil=>rfl
  | cons n ns ih=>rw [List.map_cons,blsOf,ih]; rfl
theorem ints_eq : ∀ {ps : List PV} {ns : List Int},intsOf ps = some ns -> ps = ns.map .int
  | [],ns,h=>by cases h; rfl
  | .int i :: ps,ns,h=>by
    rw [intsOf] at h
    cases e : intsOf ps with
    | none=>rw [e] at h; cases h
    | some ms=>rw [e] at h; cases h; rw [ints_eq e]; rfl
  | .non :: _,_,h | .bl _ :: _,_,h | .str _ :: _,_,h | .tup _ :: _,_,h | .lst _ :: _,_,h | .fro _ :: _,_,h | .ref _ :: _,_,h | .dic :: _,_,h=>by cases h
theorem bls_eq : ∀ {ps : List PV} {ns : List Bool},blsOf ps = some ns -> ps = ns.map .bl
  | [],ns,h=>by cases h; rfl
  | .bl i :: ps,ns,h=>by
    rw [blsOf] at h
    cases e : blsOf ps with
    | none=>rw [e] at h; cases h
    | some ms=>rw [e] at h; cases h; rw [bls_eq e]; rfl
  | .non :: _,_,h | .int _ :: _,_,h | .str _ :: _,_,h | .tup _ :: _,_,h | .lst _ :: _,_,h | .fro _ :: _,_,h | .ref _ :: _,_,h | .dic :: _,_,h=>by cases h
def oLt : OP:=fun st p q=>match p,q with
  | .int a,.int b=>.ok (.bl (decide (a < b))) st
  | .tup xs,.tup ys=>match intsOf xs,intsOf ys with
    | some ns,some ms=>.ok (.bl (HT.lexLt ns ms)) st
    | _,_=>.stuck
  | _,_=>.stuck
theorem os_lt (hu : X.A.units + 64 < cLine) : OpS X E (compareOp .Lt) oLt:=⟨fun H ρ st p q x y Q R rp rq h=>by
  unfold oLt at h
  split at h
  · cases rp; cases rq
    exact WO.of op_lt ⟨_,_,rfl,rfl,now R h rfl⟩
  · split at h
    · rename_i ns ms e1 e2
      obtain ⟨a,vs,rfl,ha,na,ra⟩:=rp
      obtain ⟨b,us,rfl,hb,nb,rb⟩:=rq
      rw [ints_eq e1] at ra
      rw [ints_eq e2] at rb
      rw [ra.toInts] at ha
      rw [rb.toInts] at hb
      exact WO.of (op_ltT (by omega)) ⟨a,b,ns,ms,rfl,rfl,SqT.of ha,SqT.of hb,now R h rfl⟩
    · exact h.elim
  · exact h.elim⟩
def dep : Nat:=12
def oEq : OP:=fun st p q=>if good dep (der st p) = true /\ good dep (der st q) = true then .ok (.bl (peq (der st p) (der st q))) st else .stuck
def oNe : OP:=fun st p q=>if good dep (der st p) = true /\ good dep (der st q) = true then .ok (.bl (!peq (der st p) (der st q))) st else .stuck
theorem os_eq (hu : X.A.units + 64 < cLine) : OpS X E (compareOp .Eq) oEq:=⟨fun H ρ st p q x y Q R rp rq h=>by
  unfold oEq at h
  split at h
  · rename_i g
    intro pins s σ v u I rv ru
    exact (eqAts dep I g.1 g.2 (by unfold dep; omega) (der_rep R g.1 rp) rv (der_rep R g.2 rq) ru).2.1 _ _ _ _ ⟨.bl _,H,I,rfl,now R h rfl⟩
  · exact h.elim⟩
theorem os_ne (hu : X.A.units + 64 < cLine) : OpS X E (compareOp .NotEq) oNe:=⟨fun H ρ st p q x y Q R rp rq h=>by
  unfold oNe at h
  split at h
  · rename_i g
    intro pins s σ v u I rv ru
    exact (eqAts dep I g.1 g.2 (by unfold dep; omega) (der_rep R g.1 rp) rv (der_rep R g.2 rq) ru).2.2 _ _ _ _ ⟨.bl _,H,I,rfl,now R h rfl⟩
  · exact h.elim⟩
def isNon : PV -> Bool
  | .non=>true
  | _=>false
theorem isNon_rep {H : Hp} {ρ : Tk} {p : PV} {x : V} (r : Rep H ρ p x) : decide (x = .non) = isNon p:=by
  cases p with
  | non=>cases r; rfl
  | bl _=>cases r; rfl
  | int _=>cases r; rfl
  | str _=>cases r; rfl
  | tup _=>obtain ⟨_,_,rfl,_⟩:=r; rfl
  | lst _=>obtain ⟨_,_,rfl,_⟩:=r; rfl
  | fro _=>obtain ⟨_,_,rfl,_⟩:=r; rfl
  | ref _=>obtain ⟨_,_,rfl⟩:=r; rfl
  | dic=>obtain ⟨_,rfl,_⟩:=r; rfl
def oIs : OP:=fun st p q=>match q with
  | .non=>.ok (.bl (isNon p)) st
  | .bl c=>match p with
    | .bl b=>.ok (.bl (b == c)) st
    | _=>.stuck
  | _=>.stuck
def oIsNot : OP:=fun st p q=>match q with
  | .non=>.ok (.bl (!isNon p)) st
  | .bl c=>match p with
    | .bl b=>.ok (.bl (b != c)) st
    | _=>.stuck
  | _=>.stuck
theorem os_isnot : OpS X E (compareOp .IsNot) oIsNot:=⟨fun H ρ st p q x y Q R rp rq h=>by
  unfold oIsNot at h
  split at h
  · cases rq
    refine WO.of op_notN ⟨rfl,?_⟩
    rw [isNon_rep rp]
    exact now R h rfl
  · split at h
    · cases rp; cases rq
      exact WO.of op_isnot_bl ⟨_,_,rfl,rfl,now R h rfl⟩
    · exact h.elim
  · exact h.elim⟩
def oIn (neg : Bool) : OP:=fun st p q=>match seqOf st q with
  | some xs=>if good dep (der st p) = true /\ xs.all (good dep) = true then .ok (.bl ((xs.any fun y=>peq y (der st p)) != neg)) st else .stuck
  | none=>.stuck
open Classical in
theorem in_items {pins : List (Addr × Obj)} {σ : St} {H : Hp} {ρ : Tk} {s : Shared} {A : Around} {st : Store} {p : PV} {xs : List PV} {x : V} {v : Value} {vs : List V} {its : List Value} (I : Inv X pins σ H s) (hu : A.units + dep < cLine) (R : Rel H ρ st)
    (gp : good dep (der st p) = true) (gx : xs.all (good dep) = true) (rp : Rep H ρ p x) (rv : RelV x v) (ra : RepL H ρ xs vs) (vi : Vals vs its) : ∃ e : Value -> Bool,(∀ u,u ∈ its.toArray -> SeqAt.EqAt A s u v (e u)) /\ its.toArray.any e = xs.any fun y=>peq y (der st p):=by
  have key : ∀ u ∈ its,∃ q ∈ xs,∃ y,Rep H Tk.nil q y /\ RelV y u:=fun u hu=>by
    obtain ⟨j,hj,rfl⟩:=List.getElem_of_mem hu
    have l1:=vi.length
    have l2:=ra.length
    obtain ⟨y,e1,e2⟩:=(repL_nil gx ra).get (List.getElem?_eq_getElem (show j < xs.length by omega))
    obtain ⟨w,e3,e4⟩:=vi.get e1
    rw [List.getElem?_eq_getElem hj] at e3; cases e3
    exact ⟨_,List.getElem_mem _,y,e2,e4⟩
  refine ⟨fun u=>decide (∃ q ∈ xs,∃ y,Rep H Tk.nil q y /\ RelV y u /\ peq q (der st p) = true),fun u hm=>?_,?_⟩
  · have hm' : u ∈ its:=by simpa using hm
    by_cases z : ∃ q ∈ xs,∃ y,Rep H Tk.nil q y /\ RelV y u /\ peq q (der st p) = true
    · show SeqAt.EqAt A s u v (decide _)
      rw [decide_eq_true z]
      obtain ⟨q,hq,y,r1,r2,e⟩:=z
      have:=(eqAts dep I ((List.all_eq_true.mp gx) q hq) gp hu r1 r2 (der_rep R gp rp) rv).1
      rw [e] at this
      exact this
    · show SeqAt.EqAt A s u v (decide _)
      rw [decide_eq_false z]
      obtain ⟨q,hq,y,r1,r2⟩:=key u hm'
      have:=(eqAts dep I ((List.all_eq_true.mp gx) q hq) gp hu r1 r2 (der_rep R gp rp) rv).1
      cases e : peq q (der st p) with
      | true=>exact absurd ⟨q,hq,y,r1,r2,e⟩ z
      | false=>rw [e] at this; exact this
  · rw [Bool.eq_iff_iff,Array.any_eq_true,List.any_eq_true]
    constructor
    · rintro ⟨j,hj,e⟩
      obtain ⟨q,hq,y,r1,r2,e⟩:=of_decide_eq_true e
      exact ⟨q,hq,e⟩
    · rintro ⟨q,hq,e⟩
      obtain ⟨j,hj,rfl⟩:=List.getElem_of_mem hq
      have l1:=vi.length
      have l2:=ra.length
      have hj' : j < its.length:=by omega
      obtain ⟨y,e1,e2⟩:=(repL_nil gx ra).get (List.getElem?_eq_getElem hj)
      obtain ⟨w,e3,e4⟩:=vi.get e1
      refine ⟨j,by simpa using hj',decide_eq_true ⟨_,hq,y,e2,?_,e⟩⟩
      rw [List.getElem?_eq_getElem hj'] at e3; cases e3
      simpa using e4
theorem os_notin (hu : X.A.units + 64 < cLine) : OpS X E (compareOp .NotIn) (oIn true):=⟨fun H ρ st p q x y Q R rp rq h=>by
  unfold oIn at h
  split at h
  · rename_i xs es
    split at h
    · rename_i g
      obtain ⟨t,a,vs,rfl,hq,ra⟩:=seq_at (K:=X.K) R rq es
      intro pins s σ v u I rv ru
      cases ru
      rw [Bool.bne_true] at h
      cases t with
      | true=>
        obtain ⟨its,r,pl,hz⟩:=I.tuple hq
        obtain ⟨e,he,ea⟩:=in_items (A:=X.A.in1) I (by show X.A.units + 1 + dep < cLine; unfold dep; omega) R g.1 g.2 rp rv ra r
        refine SeqAt.notIn_tupleAt e pl he ⟨.bl _,H,I,rfl,?_⟩
        rw [ea]
        exact now R h rfl
      | false=>
        obtain ⟨its,r,pl,hz⟩:=I.list hq
        obtain ⟨e,he,ea⟩:=in_items (A:=X.A.in1) I (by show X.A.units + 1 + dep < cLine; unfold dep; omega) R g.1 g.2 rp rv ra r
        refine SeqAt.notIn_listAt e pl.isList he ⟨.bl _,H,I,rfl,?_⟩
        rw [ea]
        exact now R h rfl
    · exact h.elim
  · exact h.elim⟩
end
end Sm
namespace Sm
open PySem PySem.Spec L2
section
variable {H : Hp} {ρ : Tk}
theorem RepL.atI {ps : List PV} {vs : List V} {i : Int} {p : PV} (r : RepL H ρ ps vs) (e : atI ps i = some p) : ∃ v,L2.atI vs i = some v /\ Rep H ρ p v:=by
  unfold L2.atI at e ⊢
  rw [<- r.length]
  cases q : ixN ps.length i with
  | none=>rw [q] at e; cases e
  | some j=>
    rw [q] at e
    exact r.get e
def cut {α : Type} (xs : List α) (lo hi : Option Int) : List α:=(xs.drop (HT.sIx xs.length 0 lo)).take (HT.sIx xs.length xs.length hi - HT.sIx xs.length 0 lo)
theorem RepL.cut {ps : List PV} {vs : List V} (r : RepL H ρ ps vs) (lo hi : Option Int) : RepL H ρ (Sm.cut ps lo hi) (cutV vs lo hi):=by
  unfold Sm.cut cutV
  rw [<- r.length]
  exact (r.drop _).take _
end
section
variable {X : Cx} {E : XK} {pos : Pos} {a b : Expr} {ma mb : ME}
def oIx : OP:=fun st p q=>match seqOf st p,q with
  | some xs,.int i=>okO st (atI xs i)
  | _,_=>.stuck
theorem se_ix (ha : SimE X E a ma) (hb : SimE X E b mb) (hs : PlainIx b:=by exact fun _ _=>rfl) : SimE X E (.Subscript a b pos) (mOp oIx ma mb):=
  ⟨fun Γ σ H ρ st Q R G h=>WE.of (pe_ix ix_seq pe_w pe_w hs) (ha.use R G h.bind fun p st1 H1 ρ1 v x1 R1 G1 r1 h1=>hb.use R1 G1 h1.bind fun q st2 H2 ρ2 u x2 R2 G2 r2 h2=>by
    unfold oIx at h2
    split at h2
    · rename_i xs i e
      cases r2
      cases ea : atI xs i with
      | none=>rw [ea] at h2; exact h2.elim
      | some w=>
        rw [ea] at h2
        obtain ⟨t,b,vs,rfl,hq,ra⟩:=seq_at (K:=X.K) R2 (r1.ext x2) e
        obtain ⟨z,ez,rz⟩:=ra.atI ea
        cases t with
        | true=>exact .inr (.inl ⟨b,vs,i,z,rfl,rfl,hq,ez,now R2 h2 rz⟩)
        | false=>exact .inl ⟨b,vs,i,z,rfl,rfl,hq,ez,now R2 h2 rz⟩
    · exact h2.elim)⟩
structure SimO (X : Cx) (E : XK) (o : Option Expr) (m : Gam -> Store -> Res (Option Int)) : Prop where
  run : ∀ (Γ : Gam) (σ : St) (H : Hp) (ρ : Tk) (st : Store) (P : Option Int -> Store -> Hp -> Tk -> Prop) (Q : Option Int -> Hp -> Prop),Rel H ρ st -> EnvR H ρ Γ σ -> Acc X.mg E H ρ P (m Γ st) ->
    (∀ i st1 H1 ρ1,Ext H ρ H1 ρ1 -> Rel H1 ρ1 st1 -> EnvR H1 ρ1 Γ σ -> P i st1 H1 ρ1 -> Q i H1) -> ∃ t,PO X o t /\ t σ H Q
def mNoPart : Gam -> Store -> Res (Option Int):=fun _ st=>.ok none st
def mPart (m : ME) : Gam -> Store -> Res (Option Int):=fun Γ st=>(m Γ st).bind fun p st1=>match p with
  | .int i=>.ok (some i) st1
  | _=>.stuck
theorem so_none : SimO X E none mNoPart:=⟨fun Γ σ H ρ st P Q R G h k=>⟨_,po_none,k none st H ρ (Ext.refl _ _) R G (h H ρ (Ext.refl _ _) R)⟩⟩
theorem so_some (ha : SimE X E a ma) : SimO X E (some a) (mPart ma):=⟨fun Γ σ H ρ st P Q R G h k=>⟨_,po_some pe_w,ha.use R G h.bind fun p st1 H1 ρ1 v x1 R1 G1 r1 h1=>by
  cases p with
  | int i=>exact ⟨i,r1,k (some i) st1 H1 ρ1 x1 R1 G1 (h1 H1 ρ1 (Ext.refl _ _) R1)⟩
  | _=>exact h1.elim⟩⟩
def oSl (st : Store) (p : PV) (lo hi : Option Int) : Res PV:=match p with
  | .tup xs=>.ok (.tup (cut xs lo hi)) st
  | p=>match listOf st p with
    | some xs=>.ok (.lst (cut xs lo hi)) st
    | none=>.stuck
def mSl (ma : ME) (ml mh : Gam -> Store -> Res (Option Int)) : ME:=fun Γ st=>(ma Γ st).bind fun p st1=>(ml Γ st1).bind fun lo st2=>(mh Γ st2).bind fun hi st3=>oSl st3 p lo hi
def TO.w (X : Cx) (o : Option Expr) : TO:=fun σ H Q=>∃ t,PO X o t /\ t σ H Q
theorem po_w {o : Option Expr} : PO X o (TO.w X o):=fun pins s σ H Q I ⟨t,h,q⟩=>h pins s σ H Q I q
theorem se_slice {lo hi : Option Expr} {ml mh : Gam -> Store -> Res (Option Int)} {p2 : Pos} (ha : SimE X E a ma) (hl : SimO X E lo ml) (hh : SimO X E hi mh) : SimE X E (.Subscript a (.Slice lo hi none p2) pos) (mSl ma ml mh):=
  ⟨fun Γ σ H ρ st Q R G h=>WE.of (pe_slice (sl_tup.or (sl_whole.or sl_list)) pe_w po_w po_w) (ha.use R G h.bind fun p st1 H1 ρ1 v x1 R1 G1 r1 h1=>by
    refine hl.run Γ σ H1 ρ1 st1 _ _ R1 G1 h1.bind fun l st2 H2 ρ2 x2 R2 G2 h2=>?_
    refine hh.run Γ σ H2 ρ2 st2 _ _ R2 G2 h2.bind fun u st3 H3 ρ3 x3 R3 G3 h3=>?_
    have r3:=r1.ext (x2.trans x3)
    unfold oSl at h3
    split at h3
    · rename_i xs
      obtain ⟨a,vs,rfl,ha,na,ra⟩:=r3
      by_cases hw : HT.sIx vs.length 0 l = 0 /\ HT.sIx vs.length vs.length u = vs.length
      · refine .inr (.inl ⟨a,vs,rfl,SqT.of ha,hw,?_⟩)
        have e : cut xs l u = xs:=by
          unfold cut
          rw [ra.length,hw.1,hw.2,List.drop_zero,Nat.sub_zero,<- ra.length,List.take_length]
        rw [e] at h3
        exact now R3 h3 ⟨a,vs,rfl,ha,na,ra⟩
      · exact .inl ⟨a,vs,rfl,SqT.of ha,hw,new_tup R3 h3 (ra.cut l u)⟩
    · split at h3
      · rename_i xs e
        obtain ⟨a,vs,rfl,ha,ra⟩:=list_at R3 r3 e
        exact .inr (.inr ⟨a,vs,rfl,.inl ha,new_lst R3 h3 (ra.cut l u)⟩)
      · exact h3.elim)⟩
variable {es : List Expr} {e : Expr} {mr : Gam -> Store -> Res (List PV)}
def mCall (o : CF) (mr : Gam -> Store -> Res (List PV)) : ME:=fun Γ st=>(mr Γ st).bind fun ps st1=>o st1 ps
theorem CallS.use {f : Value} {o : CF} (s : CallS X E f o) {P : PV -> Store -> Hp -> Tk -> Prop} {Q : VK} {H : Hp} {ρ : Tk} {st : Store} {ps : List PV} {xs : List V} (R : Rel H ρ st) (rp : RepL H ρ ps xs) (h : Acc X.mg E H ρ P (o st ps))
    (k : ∀ p st1 H1 ρ1 v,Ext H ρ H1 ρ1 -> Rel H1 ρ1 st1 -> Rep H1 ρ1 p v -> P p st1 H1 ρ1 -> Q v H1) : WC X f xs H Q:=by
  refine s.run H ρ st ps xs Q R rp ?_
  cases r : o st ps with
  | ok p st1=>rw [r] at h; exact fun H' ρ' x' R' v rv=>k p st1 H' ρ' v x' R' rv (h H' ρ' x' R')
  | exc e st=>rw [r] at h; exact h
  | stuck=>rw [r] at h; exact h
theorem se_callB {id : String} {x : Str} {p : Pos} {o : CF} (hc : CallS X E (.builtin id) o) (hg : Gl X x) (hm : X.mg x = none) (hv : bootBuiltins x = some (.builtin id)) (ha : SimA X E (e :: es) mr) (hn : x ≠ "__name__" := by decide) (hdb : (x == ("__debug__" : Str)) = false:=by decide)
    (he : starEach (e :: es) X.env = (false,eval e X.env) :: starEach es X.env:=by rfl) (hpl : (backTo pos (starEach es X.env)).any (·.1) = false:=by rfl) : SimE X E (.Call (.Name x p) (e :: es) [] pos) (mCall o mr):=
  ⟨fun Γ σ H ρ st Q R G h=>WE.of (pe_callB call_w hg hm hv pa_w hn hdb he hpl) (ha.use R G h.bind fun ps st1 H1 ρ1 vs x1 R1 G1 r1 h1=>hc.use R1 r1 h1 fun _ _ _ _ v _ _ r q=>q v r)⟩
theorem se_callT {T : String} {x : Str} {p : Pos} {o : CF} (hc : CallS X E (.type T) o) (hg : Gl X x) (hm : X.mg x = none) (hv : bootBuiltins x = some (.type T)) (ha : SimA X E (e :: es) mr) (hn : x ≠ "__name__" := by decide) (hdb : (x == ("__debug__" : Str)) = false:=by decide)
    (he : starEach (e :: es) X.env = (false,eval e X.env) :: starEach es X.env:=by rfl) (hpl : (backTo pos (starEach es X.env)).any (·.1) = false:=by rfl) : SimE X E (.Call (.Name x p) (e :: es) [] pos) (mCall o mr):=
  ⟨fun Γ σ H ρ st Q R G h=>WE.of (pe_callTy call_w hg hm hv pa_w hn hdb he hpl) (ha.use R G h.bind fun ps st1 H1 ρ1 vs x1 R1 G1 r1 h1=>hc.use R1 r1 h1 fun _ _ _ _ v _ _ r q=>q v r)⟩
theorem repL_one {H : Hp} {ρ : Tk} {p : PV} {xs : List V} (r : RepL H ρ [p] xs) : ∃ v,xs = [v] /\ Rep H ρ p v:=by
  obtain ⟨v,t,rfl,h1,h2⟩:=r
  cases h2
  exact ⟨v,rfl,h1⟩
theorem repL_two {H : Hp} {ρ : Tk} {p q : PV} {xs : List V} (r : RepL H ρ [p,q] xs) : ∃ v u,xs = [v,u] /\ Rep H ρ p v /\ Rep H ρ q u:=by
  obtain ⟨v,t,rfl,h1,h2⟩:=r
  obtain ⟨u,rfl,h3⟩:=repL_one h2
  exact ⟨v,u,rfl,h1,h3⟩
def cLen : CF:=fun st ps=>match ps with
  | [p]=>match seqOf st p with
    | some xs=>.ok (.int xs.length) st
    | none=>match p with
      | .str x=>if x.length <= lim then .ok (.int x.length) st else .stuck
      | _=>.stuck
  | _=>.stuck
theorem cs_len : CallS X E (.builtin "len") cLen:=⟨fun H ρ st ps xs Q R rp h=>by
  unfold cLen at h
  split at h
  · rename_i p
    obtain ⟨v,rfl,r⟩:=repL_one rp
    split at h
    · rename_i ys e
      obtain ⟨t,a,vs,rfl,hq,ra⟩:=seq_at (K:=X.K) R r e
      rw [ra.length] at h
      exact WC.of call_len_seq ⟨a,vs,rfl,sqK_or hq,now R h rfl⟩
    · split at h
      · cases r
        split at h
        · rename_i hl
          exact WC.of call_len_str ⟨_,rfl,le_lim hl,now R h rfl⟩
        · exact h.elim
      · exact h.elim
  · exact h.elim⟩
def cInts (g : List Int -> Option PV) : CF:=fun st ps=>match ps with
  | [p]=>match (seqOf st p).bind intsOf with
    | some ns=>okO st (g ns)
    | none=>.stuck
  | _=>.stuck
def cBls (g : List Bool -> PV) : CF:=fun st ps=>match ps with
  | [p]=>match (seqOf st p).bind blsOf with
    | some ns=>.ok (g ns) st
    | none=>.stuck
  | _=>.stuck
theorem ints_at' {K : PySem.W.Frag} {H : Hp} {ρ : Tk} {st : Store} {p : PV} {v : V} {ns : List Int} (R : Rel H ρ st) (r : Rep H ρ p v) (e : (seqOf st p).bind intsOf = some ns) : ∃ (t : Bool) (a : Addr),v = .ref a /\ SqK K t H a (ns.map V.int):=by
  cases q : seqOf st p with
  | none=>rw [q] at e; cases e
  | some xs=>
    rw [q] at e
    obtain ⟨t,a,vs,rfl,hq,ra⟩:=seq_at (K:=K) R r q
    rw [ints_eq e] at ra
    rw [ra.toInts] at hq
    exact ⟨t,a,rfl,hq⟩
theorem bls_at' {K : PySem.W.Frag} {H : Hp} {ρ : Tk} {st : Store} {p : PV} {v : V} {ns : List Bool} (R : Rel H ρ st) (r : Rep H ρ p v) (e : (seqOf st p).bind blsOf = some ns) : ∃ (t : Bool) (a : Addr),v = .ref a /\ SqK K t H a (ns.map V.bl):=by
  cases q : seqOf st p with
  | none=>rw [q] at e; cases e
  | some xs=>
    rw [q] at e
    obtain ⟨t,a,vs,rfl,hq,ra⟩:=seq_at (K:=K) R r q
    rw [bls_eq e] at ra
    rw [ra.toBls] at hq
    exact ⟨t,a,rfl,hq⟩
theorem cs_sum (hc : X.calm = true) : CallS X E (.builtin "sum") (cInts fun ns=>some (.int ns.sum)):=⟨fun H ρ st ps xs Q R rp h=>by
  unfold cInts at h
  split at h
  · obtain ⟨v,rfl,r⟩:=repL_one rp
    split at h
    · rename_i ns e
      obtain ⟨t,a,rfl,hq⟩:=ints_at' (K:=X.K) R r e
      exact WC.of (call_sum t hc) ⟨a,ns,rfl,hq,now R h rfl⟩
    · exact h.elim
  · exact h.elim⟩
theorem cs_all (hc : X.calm = true) : CallS X E (.builtin "all") (cBls fun ns=>.bl (ns.all id)):=⟨fun H ρ st ps xs Q R rp h=>by
  unfold cBls at h
  split at h
  · obtain ⟨v,rfl,r⟩:=repL_one rp
    split at h
    · rename_i ns e
      obtain ⟨t,a,rfl,hq⟩:=bls_at' (K:=X.K) R r e
      exact WC.of (call_all t hc) ⟨a,ns,rfl,hq,now R h rfl⟩
    · exact h.elim
  · exact h.elim⟩
theorem cs_any (hc : X.calm = true) : CallS X E (.builtin "any") (cBls fun ns=>.bl (ns.any id)):=⟨fun H ρ st ps xs Q R rp h=>by
  unfold cBls at h
  split at h
  · obtain ⟨v,rfl,r⟩:=repL_one rp
    split at h
    · rename_i ns e
      obtain ⟨t,a,rfl,hq⟩:=bls_at' (K:=X.K) R r e
      exact WC.of (call_any t hc) ⟨a,ns,rfl,hq,now R h rfl⟩
    · exact h.elim
  · exact h.elim⟩
def maxI : List Int -> Option Int
  | []=>none
  | n :: ns=>some (ns.foldl (fun a b=>if b > a then b else a) n)
def minI : List Int -> Option Int
  | []=>none
  | n :: ns=>some (ns.foldl (fun a b=>if b < a then b else a) n)
theorem foldl_max : ∀ (ns : List Int) (n : Int),(ns.foldl (fun a b=>if b > a then b else a) n = n \/ ns.foldl (fun a b=>if b > a then b else a) n ∈ ns) /\ n <= ns.foldl (fun a b=>if b > a then b else a) n /\ ∀ k ∈ ns,k <= ns.foldl (fun a b=>if b > a then b else a) n
  | [],n=>⟨.inl rfl,Int.le_refl _,fun k h=>by cases h⟩
  | m :: ns,n=>by
    obtain ⟨h1,h2,h3⟩:=foldl_max ns (if m > n then m else n)
    rw [List.foldl_cons]
    refine ⟨?_,?_,fun k hk=>?_⟩
    · rcases h1 with e | e
      · by_cases hm : m > n
        · rw [if_pos hm] at e ⊢; exact .inr (by rw [e]; exact List.mem_cons_self)
        · rw [if_neg hm] at e ⊢; exact .inl e
      · exact .inr (List.mem_cons_of_mem _ e)
    · by_cases hm : m > n
      · rw [if_pos hm] at h2 ⊢; omega
      · rw [if_neg hm] at h2 ⊢; exact h2
    · rcases List.mem_cons.mp hk with rfl | hk
      · by_cases hm : k > n
        · rw [if_pos hm] at h2 ⊢; exact h2
        · rw [if_neg hm] at h2 ⊢; omega
      · exact h3 k hk
theorem foldl_min : ∀ (ns : List Int) (n : Int),(ns.foldl (fun a b=>if b < a then b else a) n = n \/ ns.foldl (fun a b=>if b < a then b else a) n ∈ ns) /\ ns.foldl (fun a b=>if b < a then b else a) n <= n /\ ∀ k ∈ ns,ns.foldl (fun a b=>if b < a then b else a) n <= k
  | [],n=>⟨.inl rfl,Int.le_refl _,fun k h=>by cases h⟩
  | m :: ns,n=>by
    obtain ⟨h1,h2,h3⟩:=foldl_min ns (if m < n then m else n)
    rw [List.foldl_cons]
    refine ⟨?_,?_,fun k hk=>?_⟩
    · rcases h1 with e | e
      · by_cases hm : m < n
        · rw [if_pos hm] at e ⊢; exact .inr (by rw [e]; exact List.mem_cons_self)
        · rw [if_neg hm] at e ⊢; exact .inl e
      · exact .inr (List.mem_cons_of_mem _ e)
    · by_cases hm : m < n
      · rw [if_pos hm] at h2 ⊢; omega
      · rw [if_neg hm] at h2 ⊢; exact h2
    · rcases List.mem_cons.mp hk with rfl | hk
      · by_cases hm : k < n
        · rw [if_pos hm] at h2 ⊢; exact h2
        · rw [if_neg hm] at h2 ⊢; omega
      · exact h3 k hk
def cMax : CF:=fun st ps=>match ps with
  | [.int a,.int b]=>.ok (.int (if b > a then b else a)) st
  | ps=>cInts (fun ns=>(maxI ns).map .int) st ps
def cMin : CF:=fun st ps=>match ps with
  | [.int a,.int b]=>.ok (.int (if b < a then b else a)) st
  | ps=>cInts (fun ns=>(minI ns).map .int) st ps
theorem cs_max (hc : X.calm = true) : CallS X E (.builtin "max") cMax:=⟨fun H ρ st ps xs Q R rp h=>by
  unfold cMax at h
  split at h
  · obtain ⟨v,u,rfl,r1,r2⟩:=repL_two rp
    cases r1; cases r2
    exact WC.of (call_max2 hc) ⟨_,_,rfl,now R h rfl⟩
  · unfold cInts at h
    split at h
    · obtain ⟨v,rfl,r⟩:=repL_one rp
      split at h
      · rename_i ns e
        cases ns with
        | nil=>exact h.elim
        | cons n ns=>
          obtain ⟨t,a,rfl,hq⟩:=ints_at' (K:=X.K) R r e
          refine WC.of (call_maxL t hc) ⟨a,_,rfl,hq,by simp,fun m hm hk=>?_⟩
          have em : m = ns.foldl (fun a b=>if b > a then b else a) n:=by
            obtain ⟨h1,h2,h3⟩:=foldl_max ns n
            have g1 : ns.foldl (fun a b=>if b > a then b else a) n <= m:=by
              rcases h1 with e | e
              · rw [e]; exact hk _ List.mem_cons_self
              · exact hk _ (List.mem_cons_of_mem _ e)
            have g2 : m <= ns.foldl (fun a b=>if b > a then b else a) n:=by
              rcases List.mem_cons.mp hm with rfl | hm
              · exact h2
              · exact h3 m hm
            omega
          subst em
          exact now R h rfl
      · exact h.elim
    · exact h.elim⟩
theorem cs_min (hc : X.calm = true) : CallS X E (.builtin "min") cMin:=⟨fun H ρ st ps xs Q R rp h=>by
  unfold cMin at h
  split at h
  · obtain ⟨v,u,rfl,r1,r2⟩:=repL_two rp
    cases r1; cases r2
    exact WC.of (call_min2 hc) ⟨_,_,rfl,now R h rfl⟩
  · unfold cInts at h
    split at h
    · obtain ⟨v,rfl,r⟩:=repL_one rp
      split at h
      · rename_i ns e
        cases ns with
        | nil=>exact h.elim
        | cons n ns=>
          obtain ⟨t,a,rfl,hq⟩:=ints_at' (K:=X.K) R r e
          refine WC.of (call_minL t hc) ⟨a,_,rfl,hq,by simp,fun m hm hk=>?_⟩
          have em : m = ns.foldl (fun a b=>if b < a then b else a) n:=by
            obtain ⟨h1,h2,h3⟩:=foldl_min ns n
            have g1 : m <= ns.foldl (fun a b=>if b < a then b else a) n:=by
              rcases h1 with e | e
              · rw [e]; exact hk _ List.mem_cons_self
              · exact hk _ (List.mem_cons_of_mem _ e)
            have g2 : ns.foldl (fun a b=>if b < a then b else a) n <= m:=by
              rcases List.mem_cons.mp hm with rfl | hm
              · exact h2
              · exact h3 m hm
            omega
          subst em
          exact now R h rfl
      · exact h.elim
    · exact h.elim⟩
def cList : CF:=fun st ps=>match ps with
  | [p]=>match seqOf st p with
    | some xs=>.ok (.lst xs) st
    | none=>.stuck
  | _=>.stuck
def cTuple : CF:=fun st ps=>match ps with
  | [p]=>match seqOf st p with
    | some xs=>.ok (.tup xs) st
    | none=>.stuck
  | _=>.stuck
theorem cs_list : CallS X E (.type "list") cList:=⟨fun H ρ st ps xs Q R rp h=>by
  unfold cList at h
  split at h
  · obtain ⟨v,rfl,r⟩:=repL_one rp
    split at h
    · rename_i ys e
      obtain ⟨t,a,vs,rfl,hq,ra⟩:=seq_at (K:=X.K) R r e
      exact WC.of call_list_of ⟨a,vs,rfl,sqK_or hq,new_lst R h ra⟩
    · exact h.elim
  · exact h.elim⟩
theorem cs_tuple : CallS X E (.type "tuple") cTuple:=⟨fun H ρ st ps xs Q R rp h=>by
  unfold cTuple at h
  split at h
  · rename_i p
    obtain ⟨v,rfl,r⟩:=repL_one rp
    split at h
    · rename_i ys e
      cases p with
      | tup zs=>
        cases e
        obtain ⟨a,vs,rfl,ha,na,ra⟩:=r
        exact WC.of call_tuple_of ⟨a,vs,rfl,.inr ⟨SqT.of ha,now R h ⟨a,vs,rfl,ha,na,ra⟩⟩⟩
      | _=>
        obtain ⟨a,vs,rfl,ha,ra⟩:=list_at R r e
        exact WC.of call_tuple_of ⟨a,vs,rfl,.inl ⟨.inl ha,new_tup R h ra⟩⟩
    · exact h.elim
  · exact h.elim⟩
def cAbs : CF:=fun st ps=>match ps with
  | [.int a]=>.ok (.int (if a < 0 then -a else a)) st
  | _=>.stuck
def tyN : PV -> String
  | .non => "NoneType"
  | .bl _ => "bool"
  | .int _ => "int"
  | .str _ => "str"
  | .tup _ => "tuple"
  | .lst _ => "list"
  | .fro _ => "list"
  | .ref _ => "list"
  | .dic => "dict"
def isI (T : String) (p : PV) : Bool:=tyN p == T || (T == "int" && tyN p == "bool")
theorem ty_of {K : PySem.W.Frag} {H : Hp} {ρ : Tk} {st : Store} {p : PV} {v : V} (R : Rel H ρ st) (r : Rep H ρ p v) : TyOf K H v (.type (tyN p)):=by
  cases p with
  | non=>cases r; exact .non
  | bl b=>cases r; exact .bl b
  | int i=>cases r; exact .int i
  | str x=>cases r; exact .str x
  | tup ps=>obtain ⟨a,vs,rfl,h,_⟩:=r; exact .tup h
  | lst ps=>obtain ⟨a,vs,rfl,h,_⟩:=r; exact .lst h
  | fro ps=>
    obtain ⟨a,vs,rfl,h,_⟩:=r
    rcases h with h | ⟨o,h⟩
    · exact .lst h
    · exact .frz h
  | ref i=>
    obtain ⟨a,e,rfl⟩:=r
    obtain ⟨vs,h⟩:=R.dom (List.mem_of_getElem? e)
    exact .lst h
  | dic=>obtain ⟨a,rfl,h,_⟩:=r; exact .dK h
def kitTypes : List String:=["int", "bool", "str", "tuple", "list", "dict"]
theorem kit_ok (K : PySem.W.Frag) {T : String} (hT : T ∈ kitTypes) (p : PV) : PySem.W.kitOne K (.type (tyN p)) (.type T) = some (isI T p):=by
  have hT : T = "int" \/ T = "bool" \/ T = "str" \/ T = "tuple" \/ T = "list" \/ T = "dict" := by simpa [kitTypes] using hT
  rcases hT with rfl | rfl | rfl | rfl | rfl | rfl <;> cases p <;> first | rfl | kernel_rfl
def mIsI (T : String) (m : ME) : ME:=fun Γ st=>(m Γ st).bind fun p st1=>.ok (.bl (isI T p)) st1
theorem se_isi {T : String} {tx : Str} {a : Expr} {ma : ME} {p tp : Pos} (hT : T ∈ kitTypes) (ha : SimE X E a ma) (hg : Gl X "isinstance") (hm : X.mg "isinstance" = none) (hgT : Gl X tx) (hmT : X.mg tx = none) (hvT : bootBuiltins tx = some (.type T))
    (hn : tx ≠ "__name__" := by decide) (hd : (tx == ("__debug__" : Str)) = false:=by decide)
    (he : starEach [a,.Name tx tp] X.env = (false,eval a X.env) :: starEach [.Name tx tp] X.env:=by rfl) (he2 : starEach [.Name tx tp] X.env = (false,eval (.Name tx tp) X.env) :: starEach [] X.env:=by rfl) (hpl : (backTo pos (starEach [.Name tx tp] X.env)).any (·.1) = false:=by rfl) :
    SimE X E (.Call (.Name "isinstance" p) [a,.Name tx tp] [] pos) (mIsI T ma):=
  ⟨fun Γ σ H ρ st Q R G h=>WE.of (pe_callB call_isinst hg hm boot_isinstance (pa_cons pe_w (pa_cons (pe_bltn hgT hmT hvT (v:=.ty T) rfl hn hd) pa_nil he2) he) (by decide) (by decide) he hpl)
    (ha.use R G h.bind fun q st1 H1 ρ1 v x1 R1 G1 r1 h1=>⟨v,.ty T,.type T,_,_,rfl,rfl,ty_of R1 r1,kit_ok X.K hT q,now R1 h1 rfl⟩)⟩
end
end Sm
namespace Sm
open PySem PySem.Spec L2
abbrev GA:=PV -> Gam -> Option Gam
abbrev GAs:=List PV -> Gam -> Option Gam
structure SimG (X : Cx) (tg : Expr) (ga : GA) : Prop where
  run : ∀ (Γ Γ' : Gam) (σ : St) (H : Hp) (ρ : Tk) (p : PV) (v : V) (Q : St -> Hp -> Prop),EnvR H ρ Γ σ -> Rep H ρ p v -> ga p Γ = some Γ' -> (∀ σ',EnvR H ρ Γ' σ' -> Q σ' H) -> ∃ t,PG X tg t /\ t v σ H Q
structure SimGs (X : Cx) (tgs : List Expr) (n : Nat) (ga : GAs) : Prop where
  run : ∀ (Γ Γ' : Gam) (σ : St) (H : Hp) (ρ : Tk) (ps : List PV) (vs : List V) (Q : St -> Hp -> Prop),EnvR H ρ Γ σ -> RepL H ρ ps vs -> ga ps Γ = some Γ' -> (∀ σ',EnvR H ρ Γ' σ' -> Q σ' H) -> ∃ t,PGs X tgs t /\ t vs σ H Q
  len : ∀ ps Γ Γ',ga ps Γ = some Γ' -> ps.length = n
def gaName (i : Nat) : GA:=fun p Γ=>some (Γ.set i (some p))
def gaNil : GAs:=fun ps Γ=>match ps with
  | []=>some Γ
  | _=>none
def gaCons (g : GA) (gs : GAs) : GAs:=fun ps Γ=>match ps with
  | p :: r=>(g p Γ).bind (gs r)
  | []=>none
def gaTup (gs : GAs) : GA:=fun p Γ=>match p with
  | .tup ps=>gs ps Γ
  | _=>none
section
variable {X : Cx} {pos : Pos}
theorem sg_name {i : Nat} {x : Str} (hN : X.N.Nodup) (hi : X.N[i]? = some x:=by rfl) (hx : Loc X.env.scope x:=by first | exact Or.inl rfl | exact Or.inr rfl) (hf : X.fn x = true \/ X.env.scope.names.lookup x = some .local:=by first | exact .inl rfl | exact .inr rfl) : SimG X (.Name x pos) (gaName i):=
  ⟨fun Γ Γ' σ H ρ p v Q G r e k=>⟨_,pg_name hN hi hx hf,by cases e; exact k _ (G.set r i)⟩⟩
theorem sgs_nil : SimGs X [] 0 gaNil:=⟨fun Γ Γ' σ H ρ ps vs Q G r e k=>⟨_,pgs_nil,by
  cases ps with
  | nil=>cases e; cases r; exact ⟨rfl,k σ G⟩
  | cons _ _=>cases e⟩,fun ps Γ Γ' e=>by
  cases ps with
  | nil=>rfl
  | cons _ _=>cases e⟩
def WGx (X : Cx) (tg : Expr) : TG:=fun v σ H Q=>∃ t,PG X tg t /\ t v σ H Q
theorem pg_x {tg : Expr} : PG X tg (WGx X tg):=fun pins s σ H v u Q I r ⟨t,h,q⟩=>h pins s σ H v u Q I r q
def WGsx (X : Cx) (tgs : List Expr) : TGs:=fun v σ H Q=>∃ t,PGs X tgs t /\ t v σ H Q
theorem pgs_x {tgs : List Expr} : PGs X tgs (WGsx X tgs):=fun pins s σ H v u Q I r ⟨t,h,q⟩=>h pins s σ H v u Q I r q
theorem sgs_cons {e : Expr} {es : List Expr} {g : GA} {gs : GAs} {n : Nat} (h1 : SimG X e g) (h2 : SimGs X es n gs) (hs : (assignEach (e :: es) X.env).map (·.2) = assign e X.env :: (assignEach es X.env).map (·.2):=by rfl) : SimGs X (e :: es) (n + 1) (gaCons g gs):=
  ⟨fun Γ Γ' σ H ρ ps vs Q G r eq k=>⟨_,pgs_cons pg_x pgs_x hs,by
    cases ps with
    | nil=>cases eq
    | cons p ps=>
      obtain ⟨v,t,rfl,r1,r2⟩:=r
      have eq : (g p Γ).bind (gs ps) = some Γ':=eq
      cases e1 : g p Γ with
      | none=>rw [e1] at eq; cases eq
      | some Γ1=>
        rw [e1] at eq
        exact ⟨v,t,rfl,h1.run Γ Γ1 σ H ρ p v _ G r1 e1 fun σ1 G1=>h2.run Γ1 Γ' σ1 H ρ ps t _ G1 r2 eq k⟩⟩,fun ps Γ Γ' e=>by
    cases ps with
    | nil=>cases e
    | cons p ps=>
      have e : (g p Γ).bind (gs ps) = some Γ':=e
      cases e1 : g p Γ with
      | none=>rw [e1] at e; cases e
      | some Γ1=>rw [e1] at e; rw [List.length_cons,h2.len ps Γ1 Γ' e]⟩
theorem sg_tup {es : List Expr} {k n : Nat} {gs : GAs} (hc : X.calm = true) (h : SimGs X es n gs) (hn : (assignEach es X.env).length = n:=by rfl) (hst : (assignEach es X.env).findIdx? (·.1) = none:=by rfl) : SimG X (.Tuple es k pos) (gaTup gs):=
  ⟨fun Γ Γ' σ H ρ p v Q G r e q=>⟨_,pg_tup hc pgs_x hn hst,by
    cases p with
    | tup ps=>
      obtain ⟨a,vs,rfl,ha,na,ra⟩:=r
      exact ⟨a,vs,rfl,SqT.of ha,by rw [<- ra.length]; exact h.len ps Γ Γ' e,h.run Γ Γ' σ H ρ ps vs Q G ra e q⟩
    | _=>cases e⟩⟩
end
abbrev Wt:=List (Nat × List PV)
def wOk (w : Wt) (st : Store) : Prop:=∀ x ∈ w,st[x.1]? = some (.lst x.2)
theorem wOk_nil (st : Store) : wOk [] st:=fun x h=>by cases h
structure Src (J : It) (items : List PV) (w : Wt) (H : Hp) (ρ : Tk) : Prop where
  stop : ∀ H2 ρ2 st2,Ext H ρ H2 ρ2 -> Rel H2 ρ2 st2 -> wOk w st2 -> J.stop items.length H2
  go : ∀ H2 ρ2 st2,Ext H ρ H2 ρ2 -> Rel H2 ρ2 st2 -> wOk w st2 -> ∀ i,i < items.length -> J.go i H2
  yld : ∀ H2 ρ2 st2,Ext H ρ H2 ρ2 -> Rel H2 ρ2 st2 -> wOk w st2 -> ∀ i p,items[i]? = some p -> ∀ x H3,J.yld i H2 x H3 -> Same H2 H3 /\ Rep H3 ρ2 p x
abbrev MI:=Gam -> Store -> Res (List PV × Wt)
structure SimI (X : Cx) (E : XK) (tg iter : Expr) (mi : MI) : Prop where
  run : ∀ (Γ : Gam) (σ : St) (H : Hp) (ρ : Tk) (st : Store) (P : List PV × Wt -> Store -> Hp -> Tk -> Prop) (R' : It -> Hp -> Prop),Rel H ρ st -> EnvR H ρ Γ σ -> Acc X.mg E H ρ P (mi Γ st) ->
    (∀ iw st1 H1 ρ1 J,mi Γ st = .ok iw st1 -> Ext H ρ H1 ρ1 -> Rel H1 ρ1 st1 -> EnvR H1 ρ1 Γ σ -> wOk iw.2 st1 -> iw.1.length <= sizeLine -> Src J iw.1 iw.2 H1 ρ1 -> P iw st1 H1 ρ1 -> R' J H1) -> WI X tg iter σ H R'
def srcOf (st : Store) : PV -> Option (List PV × Wt)
  | .tup xs=>some (xs,[])
  | .lst xs=>some (xs,[])
  | .fro xs=>some (xs,[])
  | .ref i=>match st[i]? with
    | some (.lst xs)=>some (xs,[(i,xs)])
    | none=>none
  | _=>none
theorem src_at {K : PySem.W.Frag} {H : Hp} {ρ : Tk} {st : Store} {p : PV} {v : V} {xs : List PV} {w : Wt} (R : Rel H ρ st) (r : Rep H ρ p v) (e : srcOf st p = some (xs,w)) :
    wOk w st /\ ∃ (t : Bool) (a : Addr),v = .ref a /\ (t = true -> ∃ ys,p = .tup ys) /\ (t = false -> ∀ ys,p ≠ .tup ys) /\ ∀ H2 ρ2 st2,Ext H ρ H2 ρ2 -> Rel H2 ρ2 st2 -> wOk w st2 -> ∃ vs,SqK K t H2 a vs /\ RepL H2 ρ2 xs vs:=by
  cases p with
  | tup ys=>
    obtain ⟨a,vs,rfl,ha,na,ra⟩:=r
    cases e
    exact ⟨wOk_nil _,true,a,rfl,fun _=>⟨_,rfl⟩,(fun z=>by cases z),fun H2 ρ2 st2 x R2 _=>⟨vs,show SqT K H2 a vs from SqT.of (x.kp ha na),ra.ext x⟩⟩
  | lst ys=>
    obtain ⟨a,vs,rfl,ha,na,ra⟩:=r
    cases e
    exact ⟨wOk_nil _,false,a,rfl,(fun z=>by cases z),(fun _ _ z=>by cases z),fun H2 ρ2 st2 x R2 _=>⟨vs,show SqL K H2 a vs from SqL.of (x.kp ha na),ra.ext x⟩⟩
  | fro ys=>
    obtain ⟨a,vs,rfl,ha,na,ra⟩:=r
    cases e
    refine ⟨wOk_nil _,false,a,rfl,(fun z=>by cases z),(fun _ _ z=>by cases z),fun H2 ρ2 st2 x R2 _=>⟨vs,show SqL K H2 a vs from ?_,ra.ext x⟩⟩
    rcases ha with ha | ⟨o,ha⟩
    · exact .inl (.inl (x.kp ha na))
    · exact .inl (.inr ⟨o,x.kp ha na⟩)
  | ref i=>
    obtain ⟨a,ea,rfl⟩:=r
    simp only [srcOf] at e
    split at e
    · rename_i ys hs
      cases e
      refine ⟨fun x hx=>?_,false,a,rfl,(fun z=>by cases z),(fun _ _ z=>by cases z),fun H2 ρ2 st2 x R2 ok=>?_⟩
      · have : x = (i,xs):=by simpa using hx
        subst this; exact hs
      · have hs2:=ok (i,xs) (by simp)
        obtain ⟨b,vs,f1,f2,f3⟩:=R2.lst hs2
        obtain ⟨t,et⟩:=x.pre
        rw [<- et,List.getElem?_append_left (List.getElem?_eq_some_iff.mp ea).1,ea] at f1
        cases f1
        exact ⟨vs,show SqL K H2 a vs from SqL.of f2,f3⟩
    · cases e
  | _=>cases e
section
variable {X : Cx} {E : XK} {pos : Pos} {tg : Expr} {e : Expr} {m : ME}
def mSeq (m : ME) : MI:=fun Γ st=>(m Γ st).bind fun p st1=>match srcOf st1 p with
  | some (xs,w)=>if xs.length <= lim then .ok (xs,w) st1 else .stuck
  | none=>.stuck
theorem RepL.i {H : Hp} {ρ : Tk} {ps : List PV} {vs : List V} {i : Nat} {p : PV} {x : V} (r : RepL H ρ ps vs) (h : ps[i]? = some p) (h' : vs[i]? = some x) : Rep H ρ p x:=by
  obtain ⟨v,e,q⟩:=r.get h
  rw [h'] at e; cases e
  exact q
theorem src_seq {K : PySem.W.Frag} {H : Hp} {ρ : Tk} {t : Bool} {a : Addr} {xs : List PV} {w : Wt} (h : ∀ H2 ρ2 st2,Ext H ρ H2 ρ2 -> Rel H2 ρ2 st2 -> wOk w st2 -> ∃ vs,SqK K t H2 a vs /\ RepL H2 ρ2 xs vs) : Src (if t = true then Itt K a else Itl K a) xs w H ρ:=by
  cases t with
  | true=>
    rw [if_pos rfl]
    refine ⟨fun H2 ρ2 st2 x R ok=>?_,fun H2 ρ2 st2 x R ok i hi=>?_,fun H2 ρ2 st2 x R ok i p hp y H3 hy=>?_⟩
    · obtain ⟨vs,s,r⟩:=h H2 ρ2 st2 x R ok
      exact ⟨vs,s,by rw [r.length]; exact Nat.le_refl _⟩
    · obtain ⟨vs,s,r⟩:=h H2 ρ2 st2 x R ok
      have hi' : i < vs.length:=by rw [<- r.length]; exact hi
      exact ⟨vs,vs[i],s,List.getElem?_eq_getElem hi'⟩
    · obtain ⟨vs,s,r⟩:=h H2 ρ2 st2 x R ok
      obtain ⟨rfl,hv⟩:=hy
      exact ⟨Same.refl _,r.i hp (hv vs s)⟩
  | false=>
    rw [if_neg Bool.false_ne_true]
    refine ⟨fun H2 ρ2 st2 x R ok=>?_,fun H2 ρ2 st2 x R ok i hi=>?_,fun H2 ρ2 st2 x R ok i p hp y H3 hy=>?_⟩
    · obtain ⟨vs,s,r⟩:=h H2 ρ2 st2 x R ok
      exact ⟨vs,s,by rw [r.length]; exact Nat.le_refl _⟩
    · obtain ⟨vs,s,r⟩:=h H2 ρ2 st2 x R ok
      have hi' : i < vs.length:=by rw [<- r.length]; exact hi
      exact ⟨vs,vs[i],s,List.getElem?_eq_getElem hi'⟩
    · obtain ⟨vs,s,r⟩:=h H2 ρ2 st2 x R ok
      obtain ⟨rfl,hv⟩:=hy
      exact ⟨Same.refl _,r.i hp (hv vs s)⟩
theorem mSeq_in {mg : Str -> Option Value} {H : Hp} {ρ : Tk} {st : Store} {p : PV} {P : List PV × Wt -> Store -> Hp -> Tk -> Prop} (R : Rel H ρ st) (h : Acc mg E H ρ P (match srcOf st p with | some (xs,w)=>if xs.length <= lim then .ok (xs,w) st else .stuck | none=>.stuck)) :
    ∃ xs w,srcOf st p = some (xs,w) /\ xs.length <= lim /\ P (xs,w) st H ρ:=by
  split at h
  · rename_i xs w e
    split at h
    · rename_i hl
      exact ⟨xs,w,e,hl,h H ρ (Ext.refl _ _) R⟩
    · exact h.elim
  · exact h.elim
theorem si_seq (ha : SimE X E e m) : SimI X E tg e (mSeq m):=⟨fun Γ σ H ρ st P R' R G h k=>by
  have hb : Acc X.mg E H ρ _ (m Γ st):=Acc.bind h
  by_cases ht : ∃ ys st1,m Γ st = .ok (.tup ys) st1
  · obtain ⟨ys,st0,e0⟩:=ht
    refine WI.of (pi_tup pe_w) (ha.use' R G hb fun p st1 H1 ρ1 v eq x1 R1 G1 r1 h1=>?_)
    obtain ⟨xs,w,e,hl,hP⟩:=mSeq_in R1 h1
    obtain ⟨ok,t,a,rfl,t1,t2,sq⟩:=src_at (K:=X.K) R1 r1 e
    have ep : p = .tup ys:=by rw [eq] at e0; injection e0
    cases t with
    | false=>exact absurd ep (t2 rfl ys)
    | true=>
      obtain ⟨vs,s,_⟩:=sq H1 ρ1 st1 (Ext.refl _ _) R1 ok
      exact ⟨a,rfl,⟨vs,s⟩,k (xs,w) st1 H1 ρ1 _ (by simp only [mSeq,eq,Res.bind,e,if_pos hl]) x1 R1 G1 ok (le_lim hl) (src_seq sq) hP⟩
  · refine WI.of (pi_list pe_w) (ha.use' R G hb fun p st1 H1 ρ1 v eq x1 R1 G1 r1 h1=>?_)
    obtain ⟨xs,w,e,hl,hP⟩:=mSeq_in R1 h1
    obtain ⟨ok,t,a,rfl,t1,t2,sq⟩:=src_at (K:=X.K) R1 r1 e
    cases t with
    | true=>
      obtain ⟨ys,rfl⟩:=t1 rfl
      exact absurd ⟨ys,st1,eq⟩ ht
    | false=>
      obtain ⟨vs,s,_⟩:=sq H1 ρ1 st1 (Ext.refl _ _) R1 ok
      exact ⟨a,rfl,⟨vs,s⟩,k (xs,w) st1 H1 ρ1 _ (by simp only [mSeq,eq,Res.bind,e,if_pos hl]) x1 R1 G1 ok (le_lim hl) (src_seq sq) hP⟩⟩
def rangeI (lo : Int) (n : Nat) : List PV:=(List.range n).map fun (k : Nat)=>PV.int (lo + (k : Int))
theorem src_range {H : Hp} {ρ : Tk} {lo : Int} {n : Nat} : Src (Itr lo n) (rangeI lo n) [] H ρ:=by
  have hl : (rangeI lo n).length = n:=by unfold rangeI; rw [List.length_map,List.length_range]
  refine ⟨fun H2 ρ2 st2 x R ok=>?_,fun H2 ρ2 st2 x R ok i hi=>?_,fun H2 ρ2 st2 x R ok i p hp y H3 hy=>?_⟩
  · show n <= (rangeI lo n).length
    omega
  · show i < n
    omega
  · obtain ⟨rfl,rfl⟩:=hy
    have hi : i < n:=by rw [<- hl]; exact (List.getElem?_eq_some_iff.mp hp).1
    unfold rangeI at hp
    rw [List.getElem?_map,List.getElem?_range hi] at hp
    cases hp
    exact ⟨Same.refl _,rfl⟩
def mRange1 (mr : Gam -> Store -> Res (List PV)) : MI:=fun Γ st=>(mr Γ st).bind fun ps st1=>match ps with
  | [.int j]=>if -(lim : Int) <= j /\ j <= lim then .ok (rangeI 0 j.toNat,[]) st1 else .stuck
  | _=>.stuck
def mRange2 (mr : Gam -> Store -> Res (List PV)) : MI:=fun Γ st=>(mr Γ st).bind fun ps st1=>match ps with
  | [.int i,.int j]=>if -(lim : Int) <= i /\ i <= lim /\ -(lim : Int) <= j /\ j <= lim then .ok (rangeI i (j - i).toNat,[]) st1 else .stuck
  | _=>.stuck
variable {a b : Expr} {mr : Gam -> Store -> Res (List PV)} {p : Pos}
theorem rangeI_len (lo : Int) (n : Nat) : (rangeI lo n).length = n:=by unfold rangeI; rw [List.length_map,List.length_range]
theorem si_range1 (hg : Gl X "range") (hm : X.mg "range" = none) (ha : SimA X E [a] mr) (hs : starEach [a] X.env = [(false,eval a X.env)]:=by rfl) : SimI X E tg (.Call (.Name "range" p) [a] [] pos) (mRange1 mr):=⟨fun Γ σ H ρ st P R' R G h k=>by
  refine WI.of (pi_range1 hg hm pa_w hs) (ha.use' R G h.bind fun ps st1 H1 ρ1 vs eq x1 R1 G1 r1 h1=>?_)
  split at h1
  · rename_i j
    split at h1
    · rename_i hj
      obtain ⟨v,rfl,rv⟩:=repL_one r1
      cases rv
      have hl : (lim : Int) = 1000000:=rfl
      refine ⟨j,rfl,by omega,by omega,k (rangeI 0 j.toNat,[]) st1 H1 ρ1 _ (by simp only [mRange1,eq,Res.bind,if_pos hj]) x1 R1 G1 (wOk_nil _) ?_ src_range (h1 H1 ρ1 (Ext.refl _ _) R1)⟩
      show (rangeI 0 j.toNat).length <= sizeLine
      rw [rangeI_len]
      exact le_lim (by omega)
    · exact h1.elim
  · exact h1.elim⟩
def zipT : List PV -> List PV -> List PV
  | x :: xs,y :: ys=>.tup [x,y] :: zipT xs ys
  | _,_=>[]
def mZip (mr : Gam -> Store -> Res (List PV)) : MI:=fun Γ st=>(mr Γ st).bind fun ps st1=>match ps with
  | [p,q]=>match srcOf st1 p,srcOf st1 q with
    | some (xs,w),some (ys,w')=>if xs.length <= lim then .ok (zipT xs ys,w ++ w') st1 else .stuck
    | _,_=>.stuck
  | _=>.stuck
def enumT : Nat -> List PV -> List PV
  | _,[]=>[]
  | n,x :: xs=>.tup [.int n,x] :: enumT (n + 1) xs
theorem enumT_len : ∀ (n : Nat) (xs : List PV),(enumT n xs).length = xs.length
  | _,[]=>rfl
  | n,x :: xs=>by rw [enumT,List.length_cons,enumT_len (n + 1) xs,List.length_cons]
theorem enumT_get : ∀ {n : Nat} {xs : List PV} {i : Nat} {p : PV},(enumT n xs)[i]? = some p -> ∃ x,p = .tup [.int (n + i : Nat),x] /\ xs[i]? = some x
  | n,[],i,p,h=>by simp [enumT] at h
  | n,x :: xs,0,p,h=>by
    simp [enumT] at h
    exact ⟨x,h.symm,rfl⟩
  | n,x :: xs,i + 1,p,h=>by
    rw [enumT,List.getElem?_cons_succ] at h
    obtain ⟨y,e1,e2⟩:=enumT_get h
    exact ⟨y,by rw [e1,show n + 1 + i = n + (i + 1) by omega],by simpa using e2⟩
def mEnum (mr : Gam -> Store -> Res (List PV)) : MI:=fun Γ st=>(mr Γ st).bind fun ps st1=>match ps with
  | [p]=>match srcOf st1 p with
    | some (xs,w)=>if xs.length <= lim then .ok (enumT 0 xs,w) st1 else .stuck
    | none=>.stuck
  | _=>.stuck
theorem src_enum {K : PySem.W.Frag} {H : Hp} {ρ : Tk} {t : Bool} {a : Addr} {xs : List PV} {w : Wt} (h : ∀ H2 ρ2 st2,Ext H ρ H2 ρ2 -> Rel H2 ρ2 st2 -> wOk w st2 -> ∃ vs,SqK K t H2 a vs /\ RepL H2 ρ2 xs vs) : Src (Ite K t a) (enumT 0 xs) w H ρ:=by
  refine ⟨fun H2 ρ2 st2 x R ok=>?_,fun H2 ρ2 st2 x R ok i hi=>?_,fun H2 ρ2 st2 x R ok i p hp y H3 hy=>?_⟩
  · obtain ⟨vs,s,r⟩:=h H2 ρ2 st2 x R ok
    exact ⟨vs,s,by rw [enumT_len,r.length]; exact Nat.le_refl _⟩
  · obtain ⟨vs,s,r⟩:=h H2 ρ2 st2 x R ok
    rw [enumT_len,r.length] at hi
    exact ⟨vs,vs[i],s,List.getElem?_eq_getElem hi⟩
  · obtain ⟨vs,s,r⟩:=h H2 ρ2 st2 x R ok
    obtain ⟨q,u,hn,rfl,rfl,hv⟩:=hy
    have e1:=hv vs s
    obtain ⟨xp,rfl,p1⟩:=enumT_get hp
    have sm : Same H2 (upd H2 q (.tup [.int i,u])):=same_new hn
    exact ⟨sm,q,[.int i,u],rfl,upd_same,R.fresh hn,RepL.cons (by rw [Nat.zero_add]; rfl) (RepL.cons ((r.i p1 e1).ext (Ext.same sm)) RepL.nil)⟩
theorem si_enum {elts : List Expr} {kt : Nat} {tp : Pos} (hg : Gl X "enumerate") (hm : X.mg "enumerate" = none) (ha : SimA X E [a] mr) (hs : starEach [a] X.env = [(false,eval a X.env)]:=by rfl) :
    SimI X E (.Tuple elts kt tp) (.Call (.Name "enumerate" p) [a] [] pos) (mEnum mr):=⟨fun Γ σ H ρ st P R' R G h k=>by
  have hb : Acc X.mg E H ρ _ (mr Γ st):=Acc.bind h
  have main : ∀ t1 : Bool,(∀ p st1,mr Γ st = .ok [p] st1 -> (t1 = true <-> ∃ ys,p = .tup ys)) -> WI X (.Tuple elts kt tp) (.Call (.Name "enumerate" p) [a] [] pos) σ H R':=fun t1 ht=>by
    refine WI.of (pi_enum t1 hg hm pa_w hs) (ha.use' R G hb fun ps st1 H1 ρ1 vs eq x1 R1 G1 r1 h1=>?_)
    split at h1
    · rename_i p'
      split at h1
      · rename_i xs w e1
        split at h1
        · rename_i hl
          obtain ⟨v,rfl,rv⟩:=repL_one r1
          obtain ⟨ok1,b1,a1,rfl,z1,z1',sq1⟩:=src_at (K:=X.K) R1 rv e1
          have g1:=ht _ _ eq
          have eb1 : b1 = t1:=by
            cases b1 with
            | true=>exact (g1.mpr (z1 rfl)).symm
            | false=>
              cases t1 with
              | false=>rfl
              | true=>obtain ⟨ys,e⟩:=g1.mp rfl; exact absurd e (z1' rfl ys)
          subst eb1
          obtain ⟨vs1,s1,_⟩:=sq1 H1 ρ1 st1 (Ext.refl _ _) R1 ok1
          refine ⟨a1,vs1,rfl,s1,k (enumT 0 xs,w) st1 H1 ρ1 _ (by simp only [mEnum,eq,Res.bind,e1,if_pos hl]) x1 R1 G1 ok1 ?_ (src_enum sq1) (h1 H1 ρ1 (Ext.refl _ _) R1)⟩
          show (enumT 0 xs).length <= sizeLine
          rw [enumT_len]
          exact le_lim hl
        · exact h1.elim
      · exact h1.elim
    · exact h1.elim
  have tt : ∀ p : PV,∃ t : Bool,t = true <-> ∃ ys,p = .tup ys:=fun p=>by
    cases p with
    | tup ys=>exact ⟨true,fun _=>⟨ys,rfl⟩,fun _=>rfl⟩
    | _=>exact ⟨false,⟨fun z=>(by cases z),fun ⟨_,z⟩=>(by cases z)⟩⟩
  by_cases hz : ∃ p st1,mr Γ st = .ok [p] st1
  · obtain ⟨p0,st0,e0⟩:=hz
    obtain ⟨t1,g1⟩:=tt p0
    refine main t1 fun p st1 e=>?_
    rw [e0] at e; cases e
    exact g1
  · exact main true fun p st1 e=>absurd ⟨p,st1,e⟩ hz⟩
end
end Sm
namespace Sm
open PySem PySem.Spec L2
abbrev ML:=Gam -> Store -> Res (List PV)
structure SimN (X : Cx) (E : XK) (e : Expr) (m : ML) : Prop where
  run : ∀ (Γ : Gam) (σ : St) (H : Hp) (ρ : Tk) (st : Store) (P : List PV -> Store -> Hp -> Tk -> Prop) (Q : VK),Rel H ρ st -> EnvR H ρ Γ σ -> Acc X.mg E H ρ P (m Γ st) ->
    (∀ ps st1 H1 ρ1 a vs,m Γ st = .ok ps st1 -> Ext H ρ H1 ρ1 -> Rel H1 ρ1 st1 -> a ∈ ρ1.hid -> H a = none -> H1 a = some (.lst vs) -> RepL H1 ρ1 ps vs -> Q (.ref a) H1) -> WE X e σ H Q
def mVal (m : ML) : ME:=fun Γ st=>(m Γ st).bind fun ps st1=>.ok (.lst ps) st1
def mTrk (m : ML) : ME:=fun Γ st=>(m Γ st).bind fun ps st1=>.ok (.ref st1.length) (st1 ++ [.lst ps])
section
variable {H0 H : Hp} {ρ0 ρ : Tk} {st : Store} {a : Addr} {ps : List PV} {vs : List V}
theorem out_val (R0 : Rel H0 ρ0 st) (x : Ext H0 ρ0 H ρ) {st1 : Store} (R : Rel H ρ st1) (hm : a ∈ ρ.hid) (hn : H0 a = none) (ha : H a = some (.lst vs)) (r : RepL H ρ ps vs) :
    Ext H0 ρ0 H ⟨ρ.tr,ρ0.hid⟩ /\ Rel H ⟨ρ.tr,ρ0.hid⟩ st1 /\ Rep H ⟨ρ.tr,ρ0.hid⟩ (.lst ps) (.ref a):=
  ⟨x.unhide,R.unhide x.hidM,a,vs,rfl,ha,(fun z=>by
    rcases z with z | z
    · exact R.ap a hm z
    · obtain ⟨o,e⟩:=R0.hd a z
      rw [hn] at e; cases e),r.unhide x.hidM⟩
mutual
theorem Rep.trk {b : Addr} {hs : List Addr} (hb : b ∈ ρ.hid) (hh : ∀ c,c ∈ hs -> c ∈ ρ.hid) : ∀ {p : PV} {v : V},Rep H ρ p v -> Rep H ⟨ρ.tr ++ [b],hs⟩ p v
  | .non,_,r=>r
  | .bl _,_,r=>r
  | .int _,_,r=>r
  | .str _,_,r=>r
  | .tup ps,v,⟨c,vs,e,s,n,r⟩=>⟨c,vs,e,s,fun z=>by
      rcases z with z | z
      · rcases List.mem_append.mp z with z | z
        · exact n (.inl z)
        · have : c = b:=by simpa using z
          subst this; exact n (.inr hb)
      · exact n (.inr (hh _ z)),RepL.trk hb hh r⟩
  | .lst ps,v,⟨c,vs,e,s,n,r⟩=>⟨c,vs,e,s,fun z=>by
      rcases z with z | z
      · rcases List.mem_append.mp z with z | z
        · exact n (.inl z)
        · have : c = b:=by simpa using z
          subst this; exact n (.inr hb)
      · exact n (.inr (hh _ z)),RepL.trk hb hh r⟩
  | .fro ps,v,⟨c,vs,e,s,n,r⟩=>⟨c,vs,e,s,fun z=>by
      rcases z with z | z
      · rcases List.mem_append.mp z with z | z
        · exact n (.inl z)
        · have : c = b:=by simpa using z
          subst this; exact n (.inr hb)
      · exact n (.inr (hh _ z)),RepL.trk hb hh r⟩
  | .ref i,v,⟨c,e,e2⟩=>⟨c,by show (ρ.tr ++ [b])[i]? = some c; rw [List.getElem?_append_left (List.getElem?_eq_some_iff.mp e).1]; exact e,e2⟩
  | .dic,v,⟨c,e,s,n⟩=>⟨c,e,s,fun z=>by
      rcases z with z | z
      · rcases List.mem_append.mp z with z | z
        · exact n (.inl z)
        · have : c = b:=by simpa using z
          subst this; exact n (.inr hb)
      · exact n (.inr (hh _ z))⟩
theorem RepL.trk {b : Addr} {hs : List Addr} (hb : b ∈ ρ.hid) (hh : ∀ c,c ∈ hs -> c ∈ ρ.hid) : ∀ {ps : List PV} {vs : List V},RepL H ρ ps vs -> RepL H ⟨ρ.tr ++ [b],hs⟩ ps vs
  | [],_,r=>r
  | p :: ps,_,⟨v,t,e,r1,r2⟩=>⟨v,t,e,Rep.trk hb hh r1,RepL.trk hb hh r2⟩
end
theorem out_trk (R0 : Rel H0 ρ0 st) (x : Ext H0 ρ0 H ρ) {st1 : Store} (R : Rel H ρ st1) (hm : a ∈ ρ.hid) (hn : H0 a = none) (ha : H a = some (.lst vs)) (r : RepL H ρ ps vs) :
    Ext H0 ρ0 H ⟨ρ.tr ++ [a],ρ0.hid⟩ /\ Rel H ⟨ρ.tr ++ [a],ρ0.hid⟩ (st1 ++ [.lst ps]) /\ Rep H ⟨ρ.tr ++ [a],ρ0.hid⟩ (.ref st1.length) (.ref a):=by
  have na0 : a ∉ ρ0.hid:=fun z=>by
    obtain ⟨o,e⟩:=R0.hd a z
    rw [hn] at e; cases e
  refine ⟨⟨x.pre.trans (List.prefix_append _ _),fun _ h=>h,fun _ h=>.inl h,x.keep,fun b hb=>?_,x.old⟩,⟨?_,?_,fun b hb=>R.hd b (x.hidM b hb),fun b hb z=>?_,fun i b c h1 h2=>?_⟩,a,?_,rfl⟩
  · rcases List.mem_append.mp hb with z | z
    · exact x.new b z
    · have : b = a:=by simpa using z
      subst this; exact .inr hn
  · show (ρ.tr ++ [a]).length = _
    rw [List.length_append,List.length_append,R.len]; rfl
  · show (ρ.tr ++ [a]).Nodup
    refine List.nodup_append.mpr ⟨R.nd,by simp,fun b hb c hc e=>?_⟩
    have : c = a:=by simpa using hc
    subst this; subst e
    exact R.ap b hm hb
  · rcases List.mem_append.mp z with z | z
    · exact R.ap b (x.hidM b hb) z
    · have : b = a:=by simpa using z
      subst this; exact na0 hb
  · have h1 : (ρ.tr ++ [a])[i]? = some b:=h1
    by_cases hi : i < st1.length
    · rw [List.getElem?_append_left (by rw [R.len]; exact hi)] at h1
      rw [List.getElem?_append_left hi] at h2
      have q:=R.cell i b c h1 h2
      cases c with
      | lst qs=>
        obtain ⟨us,e1,e2⟩:=q
        exact ⟨us,e1,e2.trk hm x.hidM⟩
    · rw [List.getElem?_append_right (by rw [R.len]; omega)] at h1
      rw [List.getElem?_append_right (by omega)] at h2
      have e0 : i - st1.length = 0:=by
        rcases Nat.eq_zero_or_pos (i - st1.length) with z | z
        · exact z
        · rw [List.getElem?_eq_none (by simp; omega)] at h2; cases h2
      rw [R.len,e0] at h1
      rw [e0] at h2
      simp at h1 h2
      subst h1; subst h2
      exact ⟨vs,ha,r.trk hm x.hidM⟩
  · show (ρ.tr ++ [a])[st1.length]? = some a
    rw [<- R.len,List.getElem?_append_right (Nat.le_refl _),Nat.sub_self]; rfl
end
section
variable {X : Cx} {E : XK} {pos : Pos} {e : Expr} {m : ML}
theorem se_val (h : SimN X E e m) : SimE X E e (mVal m):=⟨fun Γ σ H ρ st Q R G hq=>h.run Γ σ H ρ st _ Q R G hq.bind fun ps st1 H1 ρ1 a vs eq x R1 hm hn ha r=>by
  obtain ⟨x2,R2,r2⟩:=out_val R x R1 hm hn ha r
  unfold mVal at hq
  rw [eq] at hq
  exact hq _ _ x2 R2 _ r2⟩
theorem se_trk (h : SimN X E e m) : SimE X E e (mTrk m):=⟨fun Γ σ H ρ st Q R G hq=>h.run Γ σ H ρ st _ Q R G hq.bind fun ps st1 H1 ρ1 a vs eq x R1 hm hn ha r=>by
  obtain ⟨x2,R2,r2⟩:=out_trk R x R1 hm hn ha r
  unfold mTrk at hq
  rw [eq] at hq
  exact hq _ _ x2 R2 _ r2⟩
variable {es : List Expr} {mr : Gam -> Store -> Res (List PV)} {a b : Expr} {ma mb : ME}
theorem new_at {H1 : Hp} {ρ1 : Tk} {st1 : Store} {H : Hp} {ρ : Tk} {Q : VK} {ps : List PV} {vs : List V} (x : Ext H ρ H1 ρ1) (R1 : Rel H1 ρ1 st1) (r : RepL H1 ρ1 ps vs)
    (k : ∀ H1 ρ1 a vs,Ext H ρ H1 ρ1 -> Rel H1 ρ1 st1 -> a ∈ ρ1.hid -> H a = none -> H1 a = some (.lst vs) -> RepL H1 ρ1 ps vs -> Q (.ref a) H1) : ∀ p,H1 p = none -> Q (.ref p) (upd H1 p (.lst vs)):=fun p hp=>by
  refine k _ (ρ1.hide p) p vs (x.trans (Ext.hide hp)) (R1.hide hp) List.mem_cons_self ?_ upd_same (r.hide hp)
  cases e : H p with
  | none=>rfl
  | some o=>
    obtain ⟨o',e'⟩:=x.old p o e
    rw [hp] at e'; cases e'
def mLstN (mr : Gam -> Store -> Res (List PV)) : ML:=fun Γ st=>(mr Γ st).bind fun ps st1=>if ps.length <= lim then .ok ps st1 else .stuck
theorem sn_lst (h : SimA X E es mr) : SimN X E (.List es pos) (mLstN mr):=
  ⟨fun Γ σ H ρ st P Q R G hq k=>WE.of (pe_lst pa_w) (h.use' R G hq.bind fun ps st1 H1 ρ1 vs eq x1 R1 G1 r1 h1=>by
    by_cases hl : ps.length <= lim
    · refine ⟨by rw [<- r1.length]; exact le_lim hl,new_at x1 R1 r1 fun H2 ρ2 a us=>k ps st1 H2 ρ2 a us ?_⟩
      unfold mLstN
      rw [eq]
      exact if_pos hl
    · rw [if_neg hl] at h1; exact h1.elim)⟩
def mListN (ma : ME) : ML:=fun Γ st=>(ma Γ st).bind fun p st1=>match seqOf st1 p with
  | some xs=>.ok xs st1
  | none=>.stuck
theorem sn_list {p : Pos} (ha : SimE X E a ma) (hg : Gl X "list") (hm : X.mg "list" = none) (he : starEach [a] X.env = (false,eval a X.env) :: starEach [] X.env:=by rfl) : SimN X E (.Call (.Name "list" p) [a] [] pos) (mListN ma):=
  ⟨fun Γ σ H ρ st P Q R G hq k=>WE.of (pe_callTy call_list_of hg hm boot_list (pa_cons pe_w pa_nil he) (by decide) (by decide) he rfl) (ha.use' R G hq.bind fun q st1 H1 ρ1 v eq x1 R1 G1 r1 h1=>by
    split at h1
    · rename_i xs e
      obtain ⟨t,b,vs,rfl,hq2,ra⟩:=seq_at (K:=X.K) R1 r1 e
      refine ⟨b,vs,rfl,sqK_or hq2,new_at x1 R1 ra fun H2 ρ2 a us=>k xs st1 H2 ρ2 a us ?_⟩
      unfold mListN
      rw [eq]
      show (match seqOf st1 q with | some xs=>Res.ok xs st1 | none=>.stuck) = _
      rw [e]
    · exact h1.elim)⟩
def oAddN (st : Store) (p q : PV) : Res (List PV):=match lstOf st p,lstOf st q with
  | some xs,some ys=>if xs.length + ys.length <= lim then .ok (xs ++ ys) st else .stuck
  | _,_=>.stuck
def mAddN (ma mb : ME) : ML:=fun Γ st=>(ma Γ st).bind fun x st1=>(mb Γ st1).bind fun y st2=>oAddN st2 x y
def oRepN (st : Store) (p q : PV) : Res (List PV):=match lstOf st p,q with
  | some xs,.int b=>if -(2 ^ 63) <= b /\ b < 2 ^ 63 /\ xs.length * b.toNat <= lim then .ok (List.replicate b.toNat xs).flatten st else .stuck
  | _,_=>.stuck
def mRepN (ma mb : ME) : ML:=fun Γ st=>(ma Γ st).bind fun x st1=>(mb Γ st1).bind fun y st2=>oRepN st2 x y
theorem sn_rep (ha : SimE X E a ma) (hb : SimE X E b mb) : SimN X E (.BinOp a .Mult b pos) (mRepN ma mb):=
  ⟨fun Γ σ H ρ st P Q R G hq k=>WE.of (pe_op op_rep pe_w pe_w) (ha.use' R G hq.bind fun p st1 H1 ρ1 v e1 x1 R1 G1 r1 h1=>hb.use' R1 G1 h1.bind fun q st2 H2 ρ2 u e2 x2 R2 G2 r2 h2=>by
    unfold oRepN at h2
    split at h2
    · rename_i xs bb f1
      split at h2
      · rename_i hl
        cases r2
        obtain ⟨c,vs,rfl,hc,rc⟩:=lst_at R2 (r1.ext x2) f1
        refine ⟨c,bb,vs,rfl,rfl,hc,hl.1,hl.2.1,by rw [<- rc.length]; exact le_lim hl.2.2,new_at (x1.trans x2) R2 (rc.rep _) fun H3 ρ3 a ws=>k _ st2 H3 ρ3 a ws ?_⟩
        unfold mRepN oRepN
        rw [e1]
        show (mb Γ st1).bind _ = _
        rw [e2]
        show (match lstOf st2 p,PV.int bb with | some xs,.int b=>if -(2 ^ 63) <= b /\ b < 2 ^ 63 /\ xs.length * b.toNat <= lim then Res.ok (List.replicate b.toNat xs).flatten st2 else .stuck | _,_=>.stuck) = _
        rw [f1]
        exact if_pos hl
      · exact h2.elim
    · exact h2.elim)⟩
end
end Sm
namespace Sm
open PySem PySem.Spec L2
def capG (cap : List (Option Nat)) (Γ : Gam) : Gam:=cap.map fun c=>c.bind fun j=>(Γ[j]?).join
theorem EnvR.cap {H : Hp} {ρ : Tk} {Γ : Gam} {σ : St} (h : EnvR H ρ Γ σ) (cap : List (Option Nat)) : EnvR H ρ (capG cap Γ) (capOf cap σ):=by
  refine ⟨by unfold capG capOf; rw [List.length_map,List.length_map],fun i p e=>?_⟩
  unfold capG at e
  unfold capOf
  rw [List.getElem?_map] at e ⊢
  cases q : cap[i]? with
  | none=>rw [q] at e; cases e
  | some c=>
    rw [q] at e
    cases c with
    | none=>cases e
    | some j=>
      have e' : (Γ[j]?).join = some p:=Option.some.inj e
      cases r : Γ[j]? with
      | none=>rw [r] at e'; cases e'
      | some o=>
        rw [r] at e'
        have : o = some p:=e'
        subst this
        obtain ⟨v,e1,e2⟩:=h.2 j p r
        exact ⟨v,by show some ((σ[j]?).join) = some (some v); rw [e1]; rfl,e2⟩
def FreeT (cap : List (Option Nat)) (ga : GA) : Prop:=∀ Γ p Γ1,ga p (capG cap Γ) = some Γ1 -> Γ1.length = (capG cap Γ).length /\ ∀ (i : Nat) (q : PV),(capG cap Γ)[i]? = some (some q) -> Γ1[i]? = some (some q)
theorem capG_none {cap : List (Option Nat)} {i : Nat} (h : cap[i]? = some none) (Γ : Gam) : (capG cap Γ)[i]? = some none:=by
  unfold capG
  rw [List.getElem?_map,h]; rfl
theorem free_name {cap : List (Option Nat)} {i : Nat} (h : cap[i]? = some none:=by rfl) : FreeT cap (gaName i):=fun Γ p Γ1 e=>by
  cases e
  refine ⟨List.length_set ..,fun j q hj=>?_⟩
  rw [List.getElem?_set_ne fun z=>?_]
  · exact hj
  · subst z; rw [capG_none h] at hj; cases hj
open Classical in
def compG (ga : GA) (mt : MT) (me : ME) (w : Wt) (Γ0 : Gam) : List PV -> Store -> Res (List PV)
  | [],st=>if wOk w st then .ok [] st else .stuck
  | x :: xs,st=>if wOk w st then (match ga x Γ0 with
    | none=>.stuck
    | some Γ1=>(mt Γ1 st).bind fun b st1=>if b = true then (me Γ1 st1).bind fun y st2=>(compG ga mt me w Γ0 xs st2).bind fun ys st3=>.ok (y :: ys) st3 else compG ga mt me w Γ0 xs st1) else .stuck
def noX {α : Type} : Res α -> Res α
  | .exc _ _=>.stuck
  | r=>r
def mCompN (cap : List (Option Nat)) (ga : GA) (mi : MI) (mt : MT) (me : ME) : ML:=fun Γ st=>(mi Γ st).bind fun iw st1=>noX (compG ga mt me iw.2 (capG cap Γ) iw.1 st1)
structure SimTs (X : Cx) (ifs : List Expr) (m : MT) : Prop where
  run : ∀ (Γ : Gam) (σ : St) (H : Hp) (ρ : Tk) (st : Store) (P : Bool -> Store -> Hp -> Tk -> Prop) (Q : Bool -> Hp -> Prop),Rel H ρ st -> EnvR H ρ Γ σ -> Acc X.mg E0 H ρ P (m Γ st) ->
    (∀ b st1 H1 ρ1,m Γ st = .ok b st1 -> Ext H ρ H1 ρ1 -> Rel H1 ρ1 st1 -> EnvR H1 ρ1 Γ σ -> Q b H1) -> ∃ t,PTs X ifs t /\ t σ H Q
def mTrue : MT:=fun _ st=>.ok true st
theorem sts_nil {X : Cx} : SimTs X [] mTrue:=⟨fun Γ σ H ρ st P Q R G h k=>⟨_,pts_nil,k true st H ρ rfl (Ext.refl _ _) R G⟩⟩
theorem sts_one {X : Cx} {c : Expr} {m : MT} (hc : SimT X E0 c m) : SimTs X [c] m:=⟨fun Γ σ H ρ st P Q R G h k=>⟨_,pts_one pt_w,hc.use' R G h fun b st1 H1 ρ1 e x1 R1 G1 p=>k b st1 H1 ρ1 e x1 R1 G1⟩⟩
theorem acc_noX {α : Type} {mg : Str -> Option Value} {E E' : XK} {H : Hp} {ρ : Tk} {P : α -> Store -> Hp -> Tk -> Prop} {r : Res α} (h : Acc mg E H ρ P (noX r)) : Acc mg E' H ρ P r:=by
  cases r with
  | ok a st=>exact h
  | exc x st=>exact h.elim
  | stuck=>exact h
theorem Res.assoc {α β γ : Type} (r : Res α) (f : α -> Store -> Res β) (g : β -> Store -> Res γ) : (r.bind f).bind g = r.bind fun a st=>(f a st).bind g:=by cases r <;> rfl
theorem Acc.assoc {α β γ : Type} {mg : Str -> Option Value} {E : XK} {H : Hp} {ρ : Tk} {P : γ -> Store -> Hp -> Tk -> Prop} {r : Res α} {f : α -> Store -> Res β} {g : β -> Store -> Res γ} (h : Acc mg E H ρ P ((r.bind f).bind g)) : Acc mg E H ρ P (r.bind fun a st=>(f a st).bind g):=by
  rw [<- Res.assoc]; exact h
theorem EnvR.le {H : Hp} {ρ : Tk} {Γ Γ' : Gam} {σ : St} (h : EnvR H ρ Γ' σ) (hl : Γ.length = σ.length) (k : ∀ (i : Nat) (q : PV),Γ[i]? = some (some q) -> Γ'[i]? = some (some q)) : EnvR H ρ Γ σ:=⟨hl,fun i p e=>h.2 i p (k i p e)⟩
section
variable {X : Cx} {E : XK} {pos : Pos} {tg iter elt : Expr} {ifs : List Expr} {N N' : List Str} {sc scE : Scope} {cap : List (Option Nat)} {ga : GA} {mi : MI} {mt : MT} {me : ME}
def aE (X : Cx) (N' : List Str) (sc : Scope) (e : Expr) : TE:=fun σ H Q=>∀ cl C s0 H0 ex,WE (blkC X N' sc cl C s0 H0 ex) e σ H Q
def aG (X : Cx) (N' : List Str) (sc : Scope) (tg : Expr) : TG:=fun v σ H Q=>∀ cl C s0 H0 ex,WGx (blkC X N' sc cl C s0 H0 ex) tg v σ H Q
def aT (X : Cx) (N' : List Str) (sc : Scope) (ifs : List Expr) : TT:=fun σ H Q=>∀ cl C s0 H0 ex,∃ t,PTs (blkC X N' sc cl C s0 H0 ex) ifs t /\ t σ H Q
theorem comp_body {Γ : Gam} {σ : St} {H1 : Hp} {ρ1 : Tk} {st1 : Store} {J : It} {items : List PV} {w : Wt} {Q : VK} {P : List PV -> Store -> Hp -> Tk -> Prop} (hg : ∀ cl C s0 H0 ex,SimG (blkC X N' sc cl C s0 H0 ex) tg ga) (he : ∀ cl C s0 H0 ex,SimE (blkC X N' sc cl C s0 H0 ex) E0 elt me) (ht : ∀ cl C s0 H0 ex,SimTs (blkC X N' sc cl C s0 H0 ex) ifs mt)
    (hf : FreeT cap ga) (R1 : Rel H1 ρ1 st1) (G1 : EnvR H1 ρ1 Γ σ) (src : Src J items w H1 ρ1) (hlen : items.length <= sizeLine) (h : Acc X.mg E0 H1 ρ1 P (compG ga mt me w (capG cap Γ) items st1))
    (k : ∀ ys st2 H2 ρ2 acc vs,compG ga mt me w (capG cap Γ) items st1 = .ok ys st2 -> Ext H1 ρ1 H2 ρ2 -> Rel H2 ρ2 st2 -> acc ∈ ρ2.hid -> H1 acc = none -> H2 acc = some (.lst vs) -> RepL H2 ρ2 ys vs -> Q (.ref acc) H2) : compBodyT J cap (aG X N' sc tg) (aT X N' sc ifs) (aE X N' sc elt) σ H1 Q:=by
  intro acc hacc
  let W : Nat -> Nat -> List V -> St -> Hp -> Prop:=fun i m vs σ' H'=>m = items.length - i /\ i <= items.length /\ vs.length <= i /\ ∃ ρ' st' ys,Ext H1 ρ1 H' ρ' /\ acc ∈ ρ'.hid /\ Rel H' ρ' st' /\ EnvR H' ρ' (capG cap Γ) σ' /\ H' acc = some (.lst vs) /\ RepL H' ρ' ys vs /\
    compG ga mt me w (capG cap Γ) items st1 = (compG ga mt me w (capG cap Γ) (items.drop i) st').bind fun zs st3=>.ok (ys ++ zs) st3
  refine ⟨W,⟨_,rfl,Nat.zero_le _,Nat.le_refl _,ρ1.hide acc,st1,[],Ext.hide hacc,List.mem_cons_self,R1.hide hacc,(G1.cap cap).hide hacc,upd_same,rfl,?_⟩,?_⟩
  · rw [List.drop_zero]
    cases r : compG ga mt me w (capG cap Γ) items st1 with
    | ok zs st3=>rfl
    | exc x st3=>rfl
    | stuck=>rfl
  rintro i m vs σ' H' ⟨hm,hi,hvl,ρ',st',ys,x,hmem,R',G',ha,ry,hq⟩
  have hA : Acc X.mg E0 H1 ρ1 P ((compG ga mt me w (capG cap Γ) (items.drop i) st').bind fun zs st3=>.ok (ys ++ zs) st3):=by rw [<- hq]; exact h
  refine ⟨ha,?_⟩
  by_cases hlt : i < items.length
  · right
    have hd : items.drop i = items[i] :: items.drop (i + 1):=List.drop_eq_getElem_cons hlt
    rw [hd,compG] at hA hq
    by_cases hw : wOk w st'
    · rw [if_pos hw] at hA hq
      refine ⟨src.go H' _ st' x R' hw i hlt,by omega,fun y H2 hy=>?_⟩
      obtain ⟨sm,ry2⟩:=src.yld H' _ st' x R' hw i _ (List.getElem?_eq_getElem hlt) y H2 hy
      cases eg : ga items[i] (capG cap Γ) with
      | none=>rw [eg] at hA; exact hA.elim
      | some Γ1=>
        rw [eg] at hA hq
        have x2 : Ext H' ρ' H2 ρ':=Ext.same sm
        have R2:=R'.same sm
        intro cl C s0 H0 ex
        refine (hg cl C s0 H0 ex).run (capG cap Γ) Γ1 σ' H2 ρ' _ y _ (G'.ext x2) ry2 eg fun σ3 G3=>?_
        intro cl C s0 H0 ex
        have hA2:=Acc.later hA (x.trans x2)
        refine (ht cl C s0 H0 ex).run Γ1 σ3 H2 ρ' st' _ _ R2 G3 (Acc.bind (Acc.assoc hA2)) fun b st4 H4 ρ4 e4 x4 R4 G4=>?_
        simp only [e4,Res.bind] at hA hq
        have G0 : ∀ {H'' : Hp} {ρ'' : Tk},EnvR H'' ρ'' Γ1 σ3 -> EnvR H'' ρ'' (capG cap Γ) σ3:=fun {H'' ρ''} g=>g.le (by
          rw [<- G3.1]
          exact (hf Γ _ Γ1 eg).1.symm) (hf Γ _ Γ1 eg).2
        have x14 : Ext H1 ρ1 H4 ρ4:=x.trans (x2.trans x4)
        have hm4 : acc ∈ ρ4.hid:=x4.hidM acc hmem
        have na : acc ∉ ρ'.tr:=R'.ap acc hmem
        have ha4 : H4 acc = some (.lst vs):=x4.keep acc _ (sm acc _ ha) na
        have ry4 : RepL H4 ρ4 ys vs:=ry.ext (x2.trans x4)
        cases b with
        | false=>
          rw [if_neg Bool.false_ne_true] at hA hq ⊢
          exact ⟨_,show items.length - (i + 1) < m by omega,rfl,hlt,by omega,ρ4,st4,ys,x14,hm4,R4,G0 G4,ha4,ry4,hq⟩
        | true=>
          rw [if_pos rfl] at hA hq ⊢
          intro cl C s0 H0 ex
          have hA4:=Acc.later hA x14
          refine (he cl C s0 H0 ex).use' R4 G4 (Acc.bind (Acc.assoc hA4)) fun z st5 H5 ρ5 zv e5 x5 R5 G5 r5 h5=>?_
          simp only [e5,Res.bind] at hA hq
          have hm5 : acc ∈ ρ5.hid:=x5.hidM acc hm4
          have ha5 : H5 acc = some (.lst vs):=x5.keep acc _ ha4 (R4.ap acc hm4)
          have x15 : Ext H1 ρ1 H5 ρ5:=x14.trans x5
          refine ⟨ha5,_,show items.length - (i + 1) < m by omega,rfl,hlt,by rw [List.length_append]; simp; omega,ρ5,st5,ys ++ [z],x15.put0 hacc,hm5,R5.rehide hm5,(G0 G5).rehide hm5,upd_same,((ry4.ext x5).append (RepL.cons r5 RepL.nil)).rehide hm5,?_⟩
          refine hq.trans ?_
          cases rr : compG ga mt me w (capG cap Γ) (items.drop (i + 1)) st5 with
          | ok zs st6=>
            show Res.ok (ys ++ z :: zs) st6 = Res.ok ((ys ++ [z]) ++ zs) st6
            rw [List.append_assoc]; rfl
          | exc x6 st6=>rfl
          | stuck=>rfl
    · rw [if_neg hw] at hA; exact hA.elim
  · left
    have ei : i = items.length:=by omega
    subst ei
    rw [List.drop_length,compG] at hA hq
    by_cases hw : wOk w st'
    · rw [if_pos hw] at hA hq
      refine ⟨src.stop H' _ st' x R' hw,?_⟩
      have hq : compG ga mt me w (capG cap Γ) items st1 = .ok (ys ++ []) st':=hq
      rw [List.append_nil] at hq
      exact k ys st' H' ρ' acc vs hq x R' hmem hacc ha ry
    · rw [if_neg hw] at hA; exact hA.elim
theorem comp_run {Γ : Gam} {σ : St} {H : Hp} {ρ : Tk} {st : Store} {Q : VK} {P : List PV -> Store -> Hp -> Tk -> Prop} (hi : SimI X E tg iter mi) (hg : ∀ cl C s0 H0 ex,SimG (blkC X N' sc cl C s0 H0 ex) tg ga) (he : ∀ cl C s0 H0 ex,SimE (blkC X N' sc cl C s0 H0 ex) E0 elt me) (ht : ∀ cl C s0 H0 ex,SimTs (blkC X N' sc cl C s0 H0 ex) ifs mt)
    (hf : FreeT cap ga) (R : Rel H ρ st) (G : EnvR H ρ Γ σ) (h : Acc X.mg E H ρ P (mCompN cap ga mi mt me Γ st)) (k : ∀ ps st2 H2 ρ2 a vs,mCompN cap ga mi mt me Γ st = .ok ps st2 -> Ext H ρ H2 ρ2 -> Rel H2 ρ2 st2 -> a ∈ ρ2.hid -> H a = none -> H2 a = some (.lst vs) -> RepL H2 ρ2 ps vs -> Q (.ref a) H2) : tCompT cap (WI X tg iter) (aG X N' sc tg) (aT X N' sc ifs) (aE X N' sc elt) σ H Q:=by
  refine hi.run Γ σ H ρ st _ _ R G h.bind fun iw st1 H1 ρ1 J eq x1 R1 G1 ok hl src h1=>?_
  refine comp_body hg he ht hf R1 G1 src hl (acc_noX (E':=E0) h1) fun ys st2 H2 ρ2 acc vs eq2 x2 R2 hm hn ha ry=>?_
  refine k ys st2 H2 ρ2 acc vs ?_ (x1.trans x2) R2 hm ?_ ha ry
  · unfold mCompN
    rw [eq]
    show noX _ = _
    rw [eq2]; rfl
  cases e : H acc with
  | none=>rfl
  | some o=>
    obtain ⟨o',e'⟩:=x1.old acc o e
    rw [hn] at e'; cases e'
theorem pg_a {N' : List Str} {sc : Scope} {tg : Expr} : ∀ cl C s0 H0 ex,PG (blkC X N' sc cl C s0 H0 ex) tg (aG X N' sc tg):=fun cl C s0 H0 ex pins s σ H v u Q I r h=>pg_x pins s σ H v u Q I r (h cl C s0 H0 ex)
theorem pe_a {N' : List Str} {sc : Scope} {e : Expr} : ∀ cl C s0 H0 ex,PE (blkC X N' sc cl C s0 H0 ex) e (aE X N' sc e):=fun cl C s0 H0 ex pins s σ H Q I h=>h cl C s0 H0 ex pins s I
theorem pts_a {N' : List Str} {sc : Scope} {ifs : List Expr} : ∀ cl C s0 H0 ex,PTs (blkC X N' sc cl C s0 H0 ex) ifs (aT X N' sc ifs):=fun cl C s0 H0 ex pins s σ H Q I h=>by
  obtain ⟨t,a,b⟩:=h cl C s0 H0 ex
  exact a pins s σ H Q I b
theorem sn_comp (cap : List (Option Nat)) (N' : List Str) (hcalm : X.calm = true) (hi : SimI X E tg iter mi) (hg : ∀ cl C s0 H0 ex,SimG (blkC X N' sc cl C s0 H0 ex) tg ga) (he : ∀ cl C s0 H0 ex,SimE (blkC X N' sc cl C s0 H0 ex) E0 elt me) (ht : ∀ cl C s0 H0 ex,SimTs (blkC X N' sc cl C s0 H0 ex) ifs mt)
    (hf : FreeT cap ga) (hN : X.N = N:=by rfl) (hE : X.env.scope = scE:=by rfl) (hc : compOkC N N' sc scE cap = true:=by kernel_rfl) (hs : ∀ x,foldedSetIterable iter X.env x = pure x:=by intro _; rfl) :
    SimN X E (.ListComp elt [⟨tg,iter,ifs,0⟩] sc pos) (mCompN cap ga mi mt me):=
  ⟨fun Γ σ H ρ st P Q R G h k=>WE.of (pe_compT hcalm pi_w pg_a pe_a pts_a hN hE hc hs) (comp_run hi hg he ht hf R G h k)⟩
end
end Sm
namespace Sm
open PySem PySem.Spec L2
inductive SR where
  | nx (Γ : Gam) (st : Store) | rt (v : PV) (st : Store) | bk (Γ : Gam) (st : Store) | ct (Γ : Gam) (st : Store) | exc (x : Exc) (st : Store) | stuck
abbrev MS:=Gam -> Store -> SR
def Res.sbind {α : Type} (r : Res α) (f : α -> Store -> SR) : SR:=match r with
  | .ok a st=>f a st
  | .exc x st=>.exc x st
  | .stuck=>.stuck
def AccS (mg : Str -> Option Value) (E : XK) (D : Ends) (H : Hp) (ρ : Tk) : SR -> Prop
  | .nx Γ st=>∀ σ' H' ρ',Ext H ρ H' ρ' -> Rel H' ρ' st -> EnvR H' ρ' Γ σ' -> D.nx σ' H'
  | .bk Γ st=>∀ σ' H' ρ',Ext H ρ H' ρ' -> Rel H' ρ' st -> EnvR H' ρ' Γ σ' -> D.bk σ' H'
  | .ct Γ st=>∀ σ' H' ρ',Ext H ρ H' ρ' -> Rel H' ρ' st -> EnvR H' ρ' Γ σ' -> D.ct σ' H'
  | .rt p st=>∀ v H' ρ',Ext H ρ H' ρ' -> Rel H' ρ' st -> Rep H' ρ' p v -> D.rt v H'
  | .exc x st=>∀ C dv H' ρ',mg x.cls = some (.ref C) -> Ext H ρ H' ρ' -> Rel H' ρ' st -> XFs H' ρ' x.fs dv -> E (.ref C) dv H'
  | .stuck=>False
section
variable {α : Type} {mg : Str -> Option Value} {E : XK} {D : Ends} {H H1 : Hp} {ρ ρ1 : Tk}
theorem AccS.later {r : SR} (h : AccS mg E D H ρ r) (x : Ext H ρ H1 ρ1) : AccS mg E D H1 ρ1 r:=by
  cases r with
  | nx Γ st=>exact fun σ' H' ρ' x'=>h σ' H' ρ' (x.trans x')
  | bk Γ st=>exact fun σ' H' ρ' x'=>h σ' H' ρ' (x.trans x')
  | ct Γ st=>exact fun σ' H' ρ' x'=>h σ' H' ρ' (x.trans x')
  | rt p st=>exact fun v H' ρ' x'=>h v H' ρ' (x.trans x')
  | exc y st=>exact fun C dv H' ρ' m x'=>h C dv H' ρ' m (x.trans x')
  | stuck=>exact h
theorem AccS.bind {r : Res α} {f : α -> Store -> SR} (h : AccS mg E D H ρ (r.sbind f)) : Acc mg E H ρ (fun a st1 H1 ρ1=>AccS mg E D H1 ρ1 (f a st1)) r:=by
  cases r with
  | ok a st=>exact fun H' ρ' x' R'=>AccS.later (show AccS mg E D H ρ (f a st) from h) x'
  | exc e st=>exact h
  | stuck=>exact h
end
theorem Res.sassoc {α β : Type} (r : Res α) (f : α -> Store -> Res β) (g : β -> Store -> SR) : (r.bind f).sbind g = r.sbind fun a st=>(f a st).sbind g:=by cases r <;> rfl
theorem AccS.assoc {α β : Type} {mg : Str -> Option Value} {E : XK} {D : Ends} {H : Hp} {ρ : Tk} {r : Res α} {f : α -> Store -> Res β} {g : β -> Store -> SR} (h : AccS mg E D H ρ ((r.bind f).sbind g)) : AccS mg E D H ρ (r.sbind fun a st=>(f a st).sbind g):=by
  rw [<- Res.sassoc]; exact h
structure SimS (X : Cx) (E : XK) (s : Stmt) (m : MS) : Prop where
  run : ∀ (Γ : Gam) (σ : St) (H : Hp) (ρ : Tk) (st : Store) (D : Ends),Rel H ρ st -> EnvR H ρ Γ σ -> AccS X.mg E D H ρ (m Γ st) -> WS X s D σ H
structure SimB (X : Cx) (E : XK) (ss : List Stmt) (m : MS) : Prop where
  run : ∀ (Γ : Gam) (σ : St) (H : Hp) (ρ : Tk) (st : Store) (D : Ends),Rel H ρ st -> EnvR H ρ Γ σ -> AccS X.mg E D H ρ (m Γ st) -> WB X ss D σ H
section
variable {X : Cx} {E : XK} {pos : Pos} {e : Expr} {m : ME}
def mNext : MS:=fun Γ st=>.nx Γ st
def mSeqS (m1 m2 : MS) : MS:=fun Γ st=>match m1 Γ st with
  | .nx Γ1 st1=>m2 Γ1 st1
  | r=>r
theorem sb_nil : SimB X E [] mNext:=⟨fun Γ σ H ρ st D R G h=>WB.of pss_nil (h σ H ρ (Ext.refl _ _) R G)⟩
theorem sb_cons {s : Stmt} {rest : List Stmt} {m1 m2 : MS} (h1 : SimS X E s m1) (h2 : SimB X E rest m2) : SimB X E (s :: rest) (mSeqS m1 m2):=
  ⟨fun Γ σ H ρ st D R G h=>WB.of (pss_cons ps_w pss_w) (h1.run Γ σ H ρ st _ R G (by
    unfold mSeqS at h
    cases r : m1 Γ st with
    | nx Γ1 st1=>rw [r] at h; exact fun σ' H' ρ' x' R' G'=>h2.run Γ1 σ' H' ρ' st1 D R' G' (AccS.later h x')
    | bk Γ1 st1=>rw [r] at h; exact h
    | ct Γ1 st1=>rw [r] at h; exact h
    | rt p st1=>rw [r] at h; exact h
    | exc x st1=>rw [r] at h; exact h
    | stuck=>rw [r] at h; exact h))⟩
theorem sb_one {s : Stmt} {m1 : MS} (h1 : SimS X E s m1) : SimB X E [s] m1:=⟨fun Γ σ H ρ st D R G h=>WB.of (pss_one ps_w) (h1.run Γ σ H ρ st D R G h)⟩
def mExpr (m : ME) : MS:=fun Γ st=>(m Γ st).sbind fun _ st1=>.nx Γ st1
theorem ss_expr (he : SimE X E e m) (hs : swapsWith e none pos.line X.env = pure false:=by rfl) : SimS X E (.Expr e pos) (mExpr m):=
  ⟨fun Γ σ H ρ st D R G h=>WS.of (ps_expr pe_w hs) (he.use R G h.bind fun p st1 H1 ρ1 v x1 R1 G1 r1 h1=>h1 σ H1 ρ1 (Ext.refl _ _) R1 G1)⟩
def mRet (m : ME) : MS:=fun Γ st=>(m Γ st).sbind fun p st1=>.rt p st1
theorem ss_ret (he : SimE X E e m) : SimS X E (.Return (some e) pos) (mRet m):=
  ⟨fun Γ σ H ρ st D R G h=>WS.of (ps_ret pe_w) (he.use R G h.bind fun p st1 H1 ρ1 v x1 R1 G1 r1 h1=>h1 v H1 ρ1 (Ext.refl _ _) R1 r1)⟩
def mRetN : MS:=fun _ st=>.rt .non st
def mSet (i : Nat) (m : ME) : MS:=fun Γ st=>(m Γ st).sbind fun p st1=>.nx (Γ.set i (some p)) st1
theorem ss_set (i : Nat) {x : Str} {pos' : Pos} (hN : X.N.Nodup) (he : SimE X E e m) (hi : X.N[i]? = some x:=by rfl) (hx : Loc X.env.scope x:=by first | exact Or.inl rfl | exact Or.inr rfl) (hs : swapsWith e (some (.Name x pos')) pos.line X.env = pure false:=by rfl) (hf : X.fn x = true \/ X.env.scope.names.lookup x = some .local:=by first | exact .inl rfl | exact .inr rfl) :
    SimS X E (.Assign [.Name x pos'] e pos) (mSet i m):=
  ⟨fun Γ σ H ρ st D R G h=>WS.of (ps_set hN hi hx pe_w hs hf) (he.use R G h.bind fun p st1 H1 ρ1 v x1 R1 G1 r1 h1=>h1 _ H1 ρ1 (Ext.refl _ _) R1 (G1.set r1 i))⟩
section
variable {tg iter elt : Expr} {ifs : List Expr} {N N' : List Str} {sc scE : Scope} {ga : GA} {mi : MI} {mt : MT} {me : ME}
theorem ss_compV (cap : List (Option Nat)) (N' : List Str) (i : Nat) {x : Str} {px cpos : Pos} (hnd : X.N.Nodup) (hcalm : X.calm = true) (hi : SimI X E tg iter mi) (hg : ∀ cl C s0 H0 ex,SimG (blkC X N' sc cl C s0 H0 ex) tg ga) (he : ∀ cl C s0 H0 ex,SimE (blkC X N' sc cl C s0 H0 ex) E0 elt me) (ht : ∀ cl C s0 H0 ex,SimTs (blkC X N' sc cl C s0 H0 ex) ifs mt)
    (hf : FreeT cap ga) (hix : X.N[i]? = some x:=by rfl) (hx : Loc X.env.scope x:=by first | exact Or.inl rfl | exact Or.inr rfl) (hsw : swapsWith (.ListComp elt [⟨tg,iter,ifs,0⟩] sc cpos) (some (.Name x px)) pos.line X.env = pure true:=by rfl)
    (hN : X.N = N:=by rfl) (hE : X.env.scope = scE:=by rfl) (hc : compOkC N N' sc scE cap = true:=by kernel_rfl) (hs : ∀ x,foldedSetIterable iter X.env x = pure x:=by intro _; rfl) (hfn : X.fn x = true \/ X.env.scope.names.lookup x = some .local:=by first | exact .inl rfl | exact .inr rfl) :
    SimS X E (.Assign [.Name x px] (.ListComp elt [⟨tg,iter,ifs,0⟩] sc cpos) pos) (mSet i (mVal (mCompN cap ga mi mt me))):=
  ⟨fun Γ σ H ρ st D R G h=>WS.of (ps_compT hnd hix hx hcalm pi_w pg_a pe_a pts_a hsw hN hE hc hs hfn) (comp_run hi hg he ht hf R G (AccS.bind (by unfold mSet mVal at h; exact AccS.assoc h)) fun ps st1 H1 ρ1 a vs eq x R1 hm hn ha r=>by
    obtain ⟨x2,R2,r2⟩:=out_val R x R1 hm hn ha r
    simp only [mSet,mVal,eq,Res.bind,Res.sbind] at h
    exact h _ _ _ x2 R2 ((G.ext x2).set r2 i))⟩
theorem ss_compT (cap : List (Option Nat)) (N' : List Str) (i : Nat) {x : Str} {px cpos : Pos} (hnd : X.N.Nodup) (hcalm : X.calm = true) (hi : SimI X E tg iter mi) (hg : ∀ cl C s0 H0 ex,SimG (blkC X N' sc cl C s0 H0 ex) tg ga) (he : ∀ cl C s0 H0 ex,SimE (blkC X N' sc cl C s0 H0 ex) E0 elt me) (ht : ∀ cl C s0 H0 ex,SimTs (blkC X N' sc cl C s0 H0 ex) ifs mt)
    (hf : FreeT cap ga) (hix : X.N[i]? = some x:=by rfl) (hx : Loc X.env.scope x:=by first | exact Or.inl rfl | exact Or.inr rfl) (hsw : swapsWith (.ListComp elt [⟨tg,iter,ifs,0⟩] sc cpos) (some (.Name x px)) pos.line X.env = pure true:=by rfl)
    (hN : X.N = N:=by rfl) (hE : X.env.scope = scE:=by rfl) (hc : compOkC N N' sc scE cap = true:=by kernel_rfl) (hs : ∀ x,foldedSetIterable iter X.env x = pure x:=by intro _; rfl) (hfn : X.fn x = true \/ X.env.scope.names.lookup x = some .local:=by first | exact .inl rfl | exact .inr rfl) :
    SimS X E (.Assign [.Name x px] (.ListComp elt [⟨tg,iter,ifs,0⟩] sc cpos) pos) (mSet i (mTrk (mCompN cap ga mi mt me))):=
  ⟨fun Γ σ H ρ st D R G h=>WS.of (ps_compT hnd hix hx hcalm pi_w pg_a pe_a pts_a hsw hN hE hc hs hfn) (comp_run hi hg he ht hf R G (AccS.bind (by unfold mSet mTrk at h; exact AccS.assoc h)) fun ps st1 H1 ρ1 a vs eq x R1 hm hn ha r=>by
    obtain ⟨x2,R2,r2⟩:=out_trk R x R1 hm hn ha r
    simp only [mSet,mTrk,eq,Res.bind,Res.sbind] at h
    exact h _ _ _ x2 R2 ((G.ext x2).set r2 i))⟩
end
def mAsg (ga : GA) (m : ME) : MS:=fun Γ st=>(m Γ st).sbind fun p st1=>match ga p Γ with
  | some Γ1=>.nx Γ1 st1
  | none=>.stuck
def setIx (st : Store) (o i p : PV) : Option Store:=match o,i with
  | .ref k,.int j=>match st[k]? with
    | some (.lst xs)=>(ixN xs.length j).map fun n=>st.set k (.lst (xs.set n p))
    | none=>none
  | _,_=>none
def mSetIx (mo mi m : ME) : MS:=fun Γ st=>(m Γ st).sbind fun p st1=>(mo Γ st1).sbind fun o st2=>(mi Γ st2).sbind fun i st3=>match setIx st3 o i p with
  | some st4=>.nx Γ st4
  | none=>.stuck
theorem set_run {H : Hp} {ρ : Tk} {st st' : Store} {o i p : PV} {x y z : V} (R : Rel H ρ st) (ro : Rep H ρ o x) (ri : Rep H ρ i y) (rp : Rep H ρ p z) (e : setIx st o i p = some st') :
    ∃ a vs k j,x = .ref a /\ y = .int k /\ H a = some (.lst vs) /\ ixN vs.length k = some j /\ Ext H ρ (upd H a (.lst (vs.set j z))) ρ /\ Rel (upd H a (.lst (vs.set j z))) ρ st':=by
  unfold setIx at e
  split at e
  · rename_i k j
    split at e
    · rename_i xs hs
      cases ej : ixN xs.length j with
      | none=>rw [ej] at e; cases e
      | some n=>
        rw [ej] at e
        have e : st.set k (.lst (xs.set n p)) = st':=Option.some.inj e
        subst e
        obtain ⟨a,ea,rfl⟩:=ro
        cases ri
        obtain ⟨b,vs,f1,f2,f3⟩:=R.lst hs
        rw [ea] at f1; cases f1
        exact ⟨a,vs,j,n,rfl,rfl,f2,by rw [<- f3.length]; exact ej,Ext.put (List.mem_of_getElem? ea) f2,R.put ea f2 (f3.set rp n)⟩
    · cases e
  · cases e
theorem ss_sub {o i : Expr} {mo mi : ME} {tpos : Pos} (he : SimE X E e m) (ho : SimE X E o mo) (hi : SimE X E i mi)
    (ha : ∀ v,assign (.Subscript o i tpos) X.env v = (do
      let ov <- holding [v] (eval o X.env)
      let iv <- holding [v,ov] (eval i X.env)
      standAt tpos
      holding [v,ov,iv] (setItem ov iv v)
      release [v,ov,iv] []):=by intro _; rfl)
    (hs : swapsWithSole [.Subscript o i tpos] e pos.line X.env = pure false:=by rfl) (hw : swappedStores [.Subscript o i tpos] e X.env = pure none:=by rfl) (h1 : (assignEach [.Subscript o i tpos] X.env).map (·.2) = [assign (.Subscript o i tpos) X.env]:=by rfl) :
    SimS X E (.Assign [.Subscript o i tpos] e pos) (mSetIx mo mi m):=
  ⟨fun Γ σ H ρ st D R G h=>WS.of (ps_asg pe_w (pg_sub pe_w pe_w set_list ha) hs hw h1) (he.use R G h.bind fun p st1 H1 ρ1 z x1 R1 G1 r1 h1=>ho.use R1 G1 h1.bind fun ov st2 H2 ρ2 x x2 R2 G2 r2 h2=>hi.use R2 G2 h2.bind fun iv st3 H3 ρ3 y x3 R3 G3 r3 h3=>by
    cases es : setIx st3 ov iv p with
    | none=>rw [es] at h3; exact h3.elim
    | some st4=>
      rw [es] at h3
      obtain ⟨a,vs,k,j,rfl,rfl,f1,f2,x4,R4⟩:=set_run R3 (r2.ext x3) r3 (r1.ext (x2.trans x3)) es
      exact ⟨a,vs,k,j,rfl,rfl,f1,f2,h3 σ _ ρ3 x4 R4 (G3.ext x4)⟩)⟩
def mIfS (mt : MT) (ma mb : MS) : MS:=fun Γ st=>(mt Γ st).sbind fun b st1=>if b = true then ma Γ st1 else mb Γ st1
theorem ss_if {c : Expr} {a b : List Stmt} {mt : MT} {ma mb : MS} (hc : SimT X E c mt) (ha : SimB X E a ma) (hb : SimB X E b mb) : SimS X E (.If c a b pos) (mIfS mt ma mb):=
  ⟨fun Γ σ H ρ st D R G h=>WS.of (ps_if pt_w pss_w pss_w) (hc.use R G h.bind fun k st1 H1 ρ1 x1 R1 G1 h1=>by
    cases k with
    | true=>rw [if_pos rfl] at h1 ⊢; exact ha.run Γ σ H1 ρ1 st1 D R1 G1 h1
    | false=>rw [if_neg Bool.false_ne_true] at h1 ⊢; exact hb.run Γ σ H1 ρ1 st1 D R1 G1 h1)⟩
open Classical in
def forG (ga : GA) (body : MS) (w : Wt) : List PV -> Gam -> Store -> SR
  | [],Γ,st=>if wOk w st then .nx Γ st else .stuck
  | x :: xs,Γ,st=>if wOk w st then (match ga x Γ with
    | none=>.stuck
    | some Γ1=>match body Γ1 st with
      | .nx Γ2 st2=>forG ga body w xs Γ2 st2
      | .ct Γ2 st2=>forG ga body w xs Γ2 st2
      | .bk Γ2 st2=>.nx Γ2 st2
      | .rt v st2=>.rt v st2
      | .exc x st2=>.exc x st2
      | .stuck=>.stuck) else .stuck
def mFor (ga : GA) (mi : MI) (body : MS) : MS:=fun Γ st=>(mi Γ st).sbind fun iw st1=>forG ga body iw.2 iw.1 Γ st1
theorem ss_for {tg iter : Expr} {bd : List Stmt} {ga : GA} {mi : MI} {body : MS} (hp : PassesOwn (model X.prog X.w) X.A X.env X.xe) (hc : X.calm = true) (hi : SimI X E tg iter mi) (hg : SimG X tg ga) (hb : SimB X E bd body)
    (hs : ∀ x,foldedSetIterable iter X.env x = pure x:=by intro _; rfl) : SimS X E (.For tg iter bd [] pos) (mFor ga mi body):=
  ⟨fun Γ σ H ρ st D R G h=>WS.of (ps_for hp hc pi_w pg_x pss_w hs) (hi.run Γ σ H ρ st _ _ R G h.bind fun iw st1 H1 ρ1 J eq x1 R1 G1 ok hl src h1=>by
    let W : Nat -> Nat -> St -> Hp -> Prop:=fun i m σ' H'=>m = iw.1.length - i /\ i <= iw.1.length /\ ∃ Γ' ρ' st',Ext H1 ρ1 H' ρ' /\ Rel H' ρ' st' /\ EnvR H' ρ' Γ' σ' /\ AccS X.mg E D H' ρ' (forG ga body iw.2 (iw.1.drop i) Γ' st')
    refine ⟨W,⟨_,rfl,Nat.zero_le _,Γ,ρ1,st1,Ext.refl _ _,R1,G1,by rw [List.drop_zero]; exact h1⟩,?_⟩
    rintro i m σ' H' ⟨hm,hi',Γ',ρ',st',x,R',G',hA⟩
    by_cases hlt : i < iw.1.length
    · right
      have hd : iw.1.drop i = iw.1[i] :: iw.1.drop (i + 1):=List.drop_eq_getElem_cons hlt
      rw [hd,forG] at hA
      by_cases hw : wOk iw.2 st'
      · rw [if_pos hw] at hA
        refine ⟨src.go H' ρ' st' x R' hw i hlt,fun σ2 H2=>W (i + 1) (iw.1.length - (i + 1)) σ2 H2,fun σ2 H2 z=>⟨_,by omega,z⟩,fun y H2 hy=>?_⟩
        obtain ⟨sm,ry⟩:=src.yld H' ρ' st' x R' hw i _ (List.getElem?_eq_getElem hlt) y H2 hy
        have x2 : Ext H' ρ' H2 ρ':=Ext.same sm
        cases eg : ga iw.1[i] Γ' with
        | none=>rw [eg] at hA; exact hA.elim
        | some Γ1=>
          rw [eg] at hA
          refine hg.run Γ' Γ1 σ' H2 ρ' _ y _ (G'.ext x2) ry eg fun σ3 G3=>?_
          have hA2:=AccS.later hA x2
          simp only at hA2
          refine hb.run Γ1 σ3 H2 ρ' st' _ (R'.same sm) G3 ?_
          have again : ∀ {Γ2 : Gam} {st2 : Store},AccS X.mg E D H2 ρ' (forG ga body iw.2 (iw.1.drop (i + 1)) Γ2 st2) -> ∀ σ' H'' ρ'',Ext H2 ρ' H'' ρ'' -> Rel H'' ρ'' st2 -> EnvR H'' ρ'' Γ2 σ' -> W (i + 1) (iw.1.length - (i + 1)) σ' H'':=fun {Γ2 st2} a σ4 H4 ρ4 x4 R4 G4=>
            ⟨rfl,hlt,Γ2,ρ4,st2,x.trans (x2.trans x4),R4,G4,AccS.later a x4⟩
          cases rb : body Γ1 st' with
          | nx Γ2 st2=>rw [rb] at hA2; exact again hA2
          | ct Γ2 st2=>rw [rb] at hA2; exact again hA2
          | bk Γ2 st2=>rw [rb] at hA2; exact hA2
          | rt v st2=>rw [rb] at hA2; exact hA2
          | exc y st2=>rw [rb] at hA2; exact hA2
          | stuck=>rw [rb] at hA2; exact hA2.elim
      · rw [if_neg hw] at hA; exact hA.elim
    · left
      have ei : i = iw.1.length:=by omega
      subst ei
      rw [List.drop_length,forG] at hA
      by_cases hw : wOk iw.2 st'
      · rw [if_pos hw] at hA
        exact ⟨src.stop H' ρ' st' x R' hw,hA σ' H' ρ' (Ext.refl _ _) R' G'⟩
      · rw [if_neg hw] at hA; exact hA.elim)⟩
def whileG (mt : MT) (body : MS) : Nat -> Gam -> Store -> SR
  | 0,_,_=>.stuck
  | n + 1, Γ, st => (mt Γ st).sbind fun b st1 => if b = true then (match body Γ st1 with
      | .nx Γ2 st2=>whileG mt body n Γ2 st2
      | .ct Γ2 st2=>whileG mt body n Γ2 st2
      | .bk Γ2 st2=>.nx Γ2 st2
      | .rt v st2=>.rt v st2
      | .exc x st2=>.exc x st2
      | .stuck=>.stuck) else .nx Γ st1
theorem ss_while (n : Nat) {c : Expr} {bd : List Stmt} {mt : MT} {body : MS} (hp : PassesOwn (model X.prog X.w) X.A X.env X.xe) (hc : SimT X E c mt) (hb : SimB X E bd body) : SimS X E (.While c bd [] pos) (whileG mt body n):=
  ⟨fun Γ σ H ρ st D R G h=>WS.of (ps_while hp pt_w pss_w) (by
    let W : Nat -> St -> Hp -> Prop:=fun m σ' H'=>∃ Γ' ρ' st',Rel H' ρ' st' /\ EnvR H' ρ' Γ' σ' /\ AccS X.mg E D H' ρ' (whileG mt body m Γ' st')
    refine ⟨W,⟨n,Γ,ρ,st,R,G,h⟩,?_⟩
    rintro m σ' H' ⟨Γ',ρ',st',R',G',hA⟩
    cases m with
    | zero=>exact hA.elim
    | succ m=>
      rw [whileG] at hA
      refine hc.use R' G' hA.bind fun b st1 H1 ρ1 x1 R1 G1 h1=>?_
      cases b with
      | false=>rw [if_neg Bool.false_ne_true] at h1 ⊢; exact h1 σ' H1 ρ1 (Ext.refl _ _) R1 G1
      | true=>
        rw [if_pos rfl] at h1 ⊢
        refine ⟨fun σ2 H2=>W m σ2 H2,fun σ2 H2 z=>⟨m,Nat.lt_succ_self _,z⟩,hb.run Γ' σ' H1 ρ1 st1 _ R1 G1 ?_⟩
        have again : ∀ {Γ2 : Gam} {st2 : Store},AccS X.mg E D H1 ρ1 (whileG mt body m Γ2 st2) -> ∀ σ' H'' ρ'',Ext H1 ρ1 H'' ρ'' -> Rel H'' ρ'' st2 -> EnvR H'' ρ'' Γ2 σ' -> W m σ' H'':=fun {Γ2 st2} a σ4 H4 ρ4 x4 R4 G4=>⟨Γ2,ρ4,st2,R4,G4,AccS.later a x4⟩
        cases rb : body Γ' st1 with
        | nx Γ2 st2=>rw [rb] at h1; exact again h1
        | ct Γ2 st2=>rw [rb] at h1; exact again h1
        | bk Γ2 st2=>rw [rb] at h1; exact h1
        | rt v st2=>rw [rb] at h1; exact h1
        | exc y st2=>rw [rb] at h1; exact h1
        | stuck=>rw [rb] at h1; exact h1.elim)⟩
def mRaise (x : Str) (m : ME) : MS:=fun Γ st=>(m Γ st).sbind fun _ st1=>.exc ⟨x,none⟩ st1
theorem ss_raise {x : Str} {C : Addr} {np cpos : Pos} (hcalm : X.calm = true) (RO : RaiseD X E) (hg : Gl X x) (hm : X.mg x = some (.ref C)) (q : PySem.W.excIn X.K C bmVE "ValueError.__new__" = true) (he : SimE X E e m)
    (hdb : (x == ("__debug__" : Str)) = false:=by decide) (hst : starEach [e] X.env = [(false,eval e X.env)]:=by rfl) : SimS X E (.Raise (some (.Call (.Name x np) [e] [] cpos)) none pos) (mRaise x m):=
  ⟨fun Γ σ H ρ st D R G h=>WS.of (ps_raiseD hcalm RO hg hm q (pa_cons pe_w pa_nil (by rw [hst]; rfl)) hdb hst) (he.use R G h.bind fun p st1 H1 ρ1 v x1 R1 G1 r1 h1=>⟨Nat.le_trans (show 1 <= lim by decide) lim_le,h1 C none H1 ρ1 hm (Ext.refl _ _) R1 rfl⟩)⟩
end
end Sm
namespace Sm
open PySem PySem.Spec L2
def WM (X : Cx) (id : String) : V -> List V -> Hp -> VK -> Prop:=fun x xs H Q=>∀ (pins : List (Addr × Obj)) (s : Shared) (σ : St) (v : Value) (us : List Value),Inv X pins σ H s -> RelV x v -> Vals xs us -> wpAny (model X.prog X.w) X.A (call (.builtin id) (v :: us)) (EP X pins σ Q) X.xe s
theorem mt_w {X : Cx} {id : String} : MtR X id (WM X id):=fun pins s σ _ _ _ v us _ I r rs h=>h pins s σ v us I r rs
theorem WM.of {X : Cx} {id : String} {r : V -> List V -> Hp -> VK -> Prop} {x : V} {xs : List V} {H : Hp} {Q : VK} (h : MtR X id r) (q : r x xs H Q) : WM X id x xs H Q:=fun pins s σ v us I r1 r2=>h pins s σ H x xs v us Q I r1 r2 q
abbrev MF:=Store -> PV -> List PV -> Res PV
structure MtS (X : Cx) (E : XK) (id : String) (o : MF) : Prop where
  run : ∀ (H : Hp) (ρ : Tk) (st : Store) (p : PV) (ps : List PV) (x : V) (xs : List V) (Q : VK),Rel H ρ st -> Rep H ρ p x -> RepL H ρ ps xs -> Acc X.mg E H ρ (QV Q) (o st p ps) -> WM X id x xs H Q
section
variable {X : Cx} {E : XK} {o e : Expr} {es : List Expr} {mo : ME} {mr : Gam -> Store -> Res (List PV)} {name : Str} {apos cpos : Pos} {T id : String} {f : MF}
def mBM (f : MF) (mo : ME) (mr : Gam -> Store -> Res (List PV)) : ME:=fun Γ st=>(mo Γ st).bind fun p st1=>match listOf st1 p with
  | some _=>(mr Γ st1).bind fun ps st2=>f st2 p ps
  | none=>.stuck
theorem se_bm (pa : PlainAttrs "list") (slot : Slot "list" name id) (hty : typeOf (.builtin id) = pure (.type "method_descriptor")) (hm : MtS X E id f) (ho : SimE X E o mo) (ha : SimA X E (e :: es) mr)
    (hbase : attributeBase o name X.env (eval o X.env) = eval o X.env:=by rfl)
    (hfew : ((backTo cpos (starEach (e :: es) X.env)).all (fun x=>!x.1) && (backToKw cpos (keywordEach [] X.env)).all (fun x=>x.1.isSome)
      && decide ((e :: es).length + ([] : List Keyword).length + (if ([] : List Keyword).isEmpty then 0 else 1) < 30)) = true:=by rfl)
    (hline : (apos.endLine == cpos.line) = true:=by rfl) (hs : starEach (e :: es) X.env = (false,eval e X.env) :: starEach es X.env:=by rfl) (hplain : (backTo cpos (starEach es X.env)).any (·.1) = false:=by rfl) :
    SimE X E (.Call (.Attribute o name apos) (e :: es) [] cpos) (mBM f mo mr):=
  ⟨fun Γ σ H ρ st Q R G h=>WE.of (pe_bm pa slot hty mt_w pe_w pa_w hbase hfew hline hs hplain) (ho.use R G h.bind fun p st1 H1 ρ1 v x1 R1 G1 r1 h1=>by
    split at h1
    · rename_i ys el
      obtain ⟨a,vs,rfl,hr,_⟩:=list_at R1 r1 el
      exact ⟨.inl ⟨rfl,vs,.inl hr⟩,ha.use R1 G1 h1.bind fun ps st2 H2 ρ2 us x2 R2 G2 r2 h2=>hm.run H2 ρ2 st2 p ps _ us Q R2 (r1.ext x2) r2 h2⟩
    · exact h1.elim)⟩
theorem se_bm0 (pa : PlainAttrs "list") (slot : Slot "list" name id) (hty : typeOf (.builtin id) = pure (.type "method_descriptor")) (hm : MtS X E id f) (ho : SimE X E o mo)
    (hbase : attributeBase o name X.env (eval o X.env) = eval o X.env:=by rfl) (hline : (apos.endLine == cpos.line) = true:=by rfl) : SimE X E (.Call (.Attribute o name apos) [] [] cpos) (mBM f mo mNil):=
  ⟨fun Γ σ H ρ st Q R G h=>WE.of (pe_bm0 pa slot hty mt_w pe_w hbase hline) (ho.use R G h.bind fun p st1 H1 ρ1 v x1 R1 G1 r1 h1=>by
    split at h1
    · rename_i ys el
      obtain ⟨a,vs,rfl,hr,_⟩:=list_at R1 r1 el
      exact ⟨.inl ⟨rfl,vs,.inl hr⟩,hm.run H1 ρ1 st1 p [] _ [] Q R1 r1 rfl h1⟩
    · exact h1.elim)⟩
def chg (st : Store) (p : PV) (g : List PV -> Option (PV × List PV)) : Res PV:=match p with
  | .ref i=>match st[i]? with
    | some (.lst xs)=>match g xs with
      | some (r,ys)=>.ok r (st.set i (.lst ys))
      | none=>.stuck
    | none=>.stuck
  | _=>.stuck
theorem chg_run {mg : Str -> Option Value} {H : Hp} {ρ : Tk} {st : Store} {p : PV} {x : V} {g : List PV -> Option (PV × List PV)} {Q : VK} (R : Rel H ρ st) (rp : Rep H ρ p x) (h : Acc mg E H ρ (QV Q) (chg st p g)) :
    ∃ a xs vs r ys,x = .ref a /\ H a = some (.lst vs) /\ RepL H ρ xs vs /\ g xs = some (r,ys) /\ ∀ us v,RepL H ρ ys us -> Rep H ρ r v -> Q v (upd H a (.lst us)):=by
  unfold chg at h
  split at h
  · rename_i i
    split at h
    · rename_i xs hs
      split at h
      · rename_i r ys hg
        obtain ⟨a,ea,rfl⟩:=rp
        obtain ⟨b,vs,f1,f2,f3⟩:=R.lst hs
        rw [ea] at f1; cases f1
        refine ⟨a,xs,vs,r,ys,rfl,f2,f3,hg,fun us v ru rv=>?_⟩
        have x:=Ext.put (o':=.lst us) (List.mem_of_getElem? ea) f2
        exact h _ ρ x (R.put ea f2 ru) v (rv.ext x)
      · exact h.elim
    · exact h.elim
  · exact h.elim
def mtAppend : MF:=fun st p ps=>match ps with
  | [y]=>chg st p fun xs=>if xs.length < lim then some (.non,xs ++ [y]) else none
  | _=>.stuck
theorem ms_append : MtS X E "list.append" mtAppend:=⟨fun H ρ st p ps x xs Q R rp rs h=>by
  unfold mtAppend at h
  split at h
  · obtain ⟨v,rfl,r⟩:=repL_one rs
    obtain ⟨a,ys,vs,r0,zs,rfl,f1,f2,f3,k⟩:=chg_run R rp h
    split at f3
    · rename_i hl
      cases f3
      exact WM.of mt_append ⟨a,vs,v,rfl,rfl,f1,by rw [<- f2.length]; exact Nat.lt_of_lt_of_le hl lim_le,k _ _ (f2.append (RepL.cons r RepL.nil)) rfl⟩
    · cases f3
  · exact h.elim⟩
def mtExtend : MF:=fun st p ps=>match ps with
  | [q]=>match lstOf st q with
    | some ys=>chg st p fun xs=>if xs.length + ys.length <= lim then some (.non,xs ++ ys) else none
    | none=>.stuck
  | _=>.stuck
theorem ms_extend : MtS X E "list.extend" mtExtend:=⟨fun H ρ st p ps x xs Q R rp rs h=>by
  unfold mtExtend at h
  split at h
  · obtain ⟨v,rfl,r⟩:=repL_one rs
    split at h
    · rename_i ws ew
      obtain ⟨b,us,rfl,hb,rb⟩:=lst_at R r ew
      obtain ⟨a,ys,vs,r0,zs,rfl,f1,f2,f3,k⟩:=chg_run R rp h
      split at f3
      · rename_i hl
        cases f3
        exact WM.of mt_extend ⟨a,b,vs,us,rfl,rfl,f1,hb,by rw [<- f2.length,<- rb.length]; exact le_lim hl,k _ _ (f2.append rb) rfl⟩
      · cases f3
    · exact h.elim
  · exact h.elim⟩
def mtClear : MF:=fun st p ps=>match ps with
  | []=>chg st p fun _=>some (.non,[])
  | _=>.stuck
theorem ms_clear : MtS X E "list.clear" mtClear:=⟨fun H ρ st p ps x xs Q R rp rs h=>by
  unfold mtClear at h
  split at h
  · cases rs
    obtain ⟨a,ys,vs,r0,zs,rfl,f1,f2,f3,k⟩:=chg_run R rp h
    cases f3
    exact WM.of mt_clear ⟨a,vs,rfl,rfl,f1,k _ _ rfl rfl⟩
  · exact h.elim⟩
theorem se_append (ho : SimE X E o mo) (ha : SimA X E [e] mr) (hbase : attributeBase o "append" X.env (eval o X.env) = eval o X.env:=by rfl)
    (hfew : ((backTo cpos (starEach [e] X.env)).all (fun x=>!x.1) && (backToKw cpos (keywordEach [] X.env)).all (fun x=>x.1.isSome) && decide ([e].length + ([] : List Keyword).length + (if ([] : List Keyword).isEmpty then 0 else 1) < 30)) = true:=by rfl)
    (hline : (apos.endLine == cpos.line) = true:=by rfl) (hs : starEach [e] X.env = (false,eval e X.env) :: starEach [] X.env:=by rfl) : SimE X E (.Call (.Attribute o "append" apos) [e] [] cpos) (mBM mtAppend mo mr):=
  se_bm PySem.F.plainAttrs_list PySem.F.slot_list_append PySem.F.type_list_append ms_append ho ha hbase hfew hline hs
theorem se_extend (ho : SimE X E o mo) (ha : SimA X E [e] mr) (hbase : attributeBase o "extend" X.env (eval o X.env) = eval o X.env:=by rfl)
    (hfew : ((backTo cpos (starEach [e] X.env)).all (fun x=>!x.1) && (backToKw cpos (keywordEach [] X.env)).all (fun x=>x.1.isSome) && decide ([e].length + ([] : List Keyword).length + (if ([] : List Keyword).isEmpty then 0 else 1) < 30)) = true:=by rfl)
    (hline : (apos.endLine == cpos.line) = true:=by rfl) (hs : starEach [e] X.env = (false,eval e X.env) :: starEach [] X.env:=by rfl) : SimE X E (.Call (.Attribute o "extend" apos) [e] [] cpos) (mBM mtExtend mo mr):=
  se_bm PySem.F.plainAttrs_list PySem.F.slot_list_extend PySem.F.type_list_extend ms_extend ho ha hbase hfew hline hs
end
end Sm
namespace Sm
open PySem PySem.Spec L2
mutual
def fz (n : Nat) (st : Store) : Nat -> PV -> Option PV
  | 0,_=>none
  | _ + 1,.non=>some .non
  | _ + 1,.bl b=>some (.bl b)
  | _ + 1,.int i=>some (.int i)
  | _ + 1,.str x=>some (.str x)
  | k + 1,.tup xs=>(fzL n st k xs).map .tup
  | k + 1,.lst xs=>(fzL n st k xs).map .lst
  | k + 1,.fro xs=>(fzL n st k xs).map .fro
  | _ + 1,.dic=>some .dic
  | k + 1,.ref i=>if i < n then some (.ref i) else match st[i]? with
    | some (.lst xs)=>(fzL n st k xs).map .lst
    | none=>none
def fzL (n : Nat) (st : Store) : Nat -> List PV -> Option (List PV)
  | _,[]=>some []
  | k,x :: xs=>(fz n st k x).bind fun y=>(fzL n st k xs).map (y :: ·)
end
theorem fz_good {n : Nat} {st : Store} : ∀ {m k : Nat} {p : PV},good m p = true -> m < k -> fz n st k p = some p:=by
  intro m
  induction m with
  | zero=>
    intro k p g hk
    obtain ⟨k,rfl⟩ : ∃ j,k = j + 1:=⟨k - 1,by omega⟩
    cases p with
    | tup _=>cases g
    | lst _=>cases g
    | fro _=>cases g
    | ref _=>cases g
    | dic=>cases g
    | _=>rw [fz]
  | succ m ih=>
    intro k p g hk
    obtain ⟨k,rfl⟩ : ∃ j,k = j + 1:=⟨k - 1,by omega⟩
    have hL : ∀ xs : List PV,xs.all (good m) = true -> fzL n st k xs = some xs:=by
      intro xs
      induction xs with
      | nil=>intro _; rw [fzL]
      | cons x xs ihx=>
        intro g
        rw [List.all_cons,Bool.and_eq_true] at g
        rw [fzL,ih g.1 (by omega),ihx g.2]; rfl
    cases p with
    | tup xs=>rw [fz,hL xs g]; rfl
    | lst xs=>rw [fz,hL xs g]; rfl
    | fro xs=>rw [fz,hL xs g]; rfl
    | ref _=>cases g
    | dic=>cases g
    | _=>rw [fz]
section
variable {H : Hp} {ρ : Tk} {st : Store} {tr0 rest hs : List Addr}
theorem fz_rep (R : Rel H ρ st) (ht : ρ.tr = tr0 ++ rest) (hh : ∀ a,a ∈ hs -> a ∈ ρ.hid) : ∀ (k : Nat) {p p' : PV} {v : V},Rep H ρ p v -> fz tr0.length st k p = some p' -> Rep H ⟨tr0,hs⟩ p' v:=by
  have out : ∀ a,a ∉ ρ -> a ∉ (⟨tr0,hs⟩ : Tk):=fun a n z=>by
    rcases z with z | z
    · exact n (.inl (by rw [ht]; exact List.mem_append_left _ z))
    · exact n (.inr (hh a z))
  intro k
  induction k with
  | zero=>intro p p' v r e; rw [fz] at e; cases e
  | succ k ih=>
    have hL : ∀ {ps ps' : List PV} {vs : List V},RepL H ρ ps vs -> fzL tr0.length st k ps = some ps' -> RepL H ⟨tr0,hs⟩ ps' vs:=by
      intro ps
      induction ps with
      | nil=>intro ps' vs r e; rw [fzL] at e; cases e; exact r
      | cons x xs ihx=>
        intro ps' vs r e
        obtain ⟨v,t,rfl,r1,r2⟩:=r
        rw [fzL] at e
        cases e1 : fz tr0.length st k x with
        | none=>rw [e1] at e; cases e
        | some y=>
          rw [e1] at e
          have e : (fzL tr0.length st k xs).map (y :: ·) = some ps':=e
          cases e2 : fzL tr0.length st k xs with
          | none=>rw [e2] at e; cases e
          | some ys=>
            rw [e2] at e
            cases e
            exact ⟨v,t,rfl,ih r1 e1,ihx r2 e2⟩
    intro p p' v r e
    cases p with
    | non=>rw [fz] at e; cases e; exact r
    | bl b=>rw [fz] at e; cases e; exact r
    | int i=>rw [fz] at e; cases e; exact r
    | str x=>rw [fz] at e; cases e; exact r
    | tup xs=>
      rw [fz] at e
      obtain ⟨a,vs,e1,ha,na,ra⟩:=r
      cases e2 : fzL tr0.length st k xs with
      | none=>rw [e2] at e; cases e
      | some ys=>rw [e2] at e; cases e; exact ⟨a,vs,e1,ha,out a na,hL ra e2⟩
    | lst xs=>
      rw [fz] at e
      obtain ⟨a,vs,e1,ha,na,ra⟩:=r
      cases e2 : fzL tr0.length st k xs with
      | none=>rw [e2] at e; cases e
      | some ys=>rw [e2] at e; cases e; exact ⟨a,vs,e1,ha,out a na,hL ra e2⟩
    | fro xs=>
      rw [fz] at e
      obtain ⟨a,vs,e1,ha,na,ra⟩:=r
      cases e2 : fzL tr0.length st k xs with
      | none=>rw [e2] at e; cases e
      | some ys=>rw [e2] at e; cases e; exact ⟨a,vs,e1,ha,out a na,hL ra e2⟩
    | dic=>
      rw [fz] at e
      cases e
      obtain ⟨a,e1,ha,na⟩:=r
      exact ⟨a,e1,ha,out a na⟩
    | ref i=>
      rw [fz] at e
      obtain ⟨a,ea,rfl⟩:=r
      by_cases hi : i < tr0.length
      · rw [if_pos hi] at e
        cases e
        rw [ht,List.getElem?_append_left hi] at ea
        exact ⟨a,ea,rfl⟩
      · rw [if_neg hi] at e
        split at e
        · rename_i xs hs'
          obtain ⟨b,vs,f1,f2,f3⟩:=R.lst hs'
          rw [ea] at f1; cases f1
          cases e2 : fzL tr0.length st k xs with
          | none=>rw [e2] at e; cases e
          | some ys=>
            rw [e2] at e; cases e
            refine ⟨a,vs,rfl,f2,fun z=>?_,hL f3 e2⟩
            rcases z with z | z
            · have z : a ∈ tr0:=z
              obtain ⟨j,hj,ej⟩:=List.getElem_of_mem z
              have g1 : ρ.tr[j]? = some a:=by rw [ht,List.getElem?_append_left hj,List.getElem?_eq_getElem hj,ej]
              have l1:=List.getElem?_eq_some_iff.mp g1
              have l2:=List.getElem?_eq_some_iff.mp ea
              have:=nodup_inj R.nd l1.1 l2.1 (l1.2.trans l2.2.symm)
              omega
            · exact R.ap a (hh a z) (List.mem_of_getElem? ea)
        · cases e
mutual
def bel (n : Nat) : PV -> Prop
  | .tup xs=>belL n xs
  | .lst xs=>belL n xs
  | .fro xs=>belL n xs
  | .ref i=>i < n
  | _=>True
def belL (n : Nat) : List PV -> Prop
  | []=>True
  | x :: xs=>bel n x /\ belL n xs
end
mutual
theorem Rep.bel : ∀ {p : PV} {v : V},Rep H ρ p v -> bel ρ.tr.length p
  | .non,_,_=>by simp [Sm.bel]
  | .bl _,_,_=>by simp [Sm.bel]
  | .int _,_,_=>by simp [Sm.bel]
  | .str _,_,_=>by simp [Sm.bel]
  | .tup ps,_,⟨_,_,_,_,_,r⟩=>by rw [Sm.bel]; exact RepL.bel r
  | .lst ps,_,⟨_,_,_,_,_,r⟩=>by rw [Sm.bel]; exact RepL.bel r
  | .fro ps,_,⟨_,_,_,_,_,r⟩=>by rw [Sm.bel]; exact RepL.bel r
  | .ref i,_,⟨_,e,_⟩=>by rw [Sm.bel]; exact (List.getElem?_eq_some_iff.mp e).1
  | .dic,_,_=>by simp [Sm.bel]
theorem RepL.bel : ∀ {ps : List PV} {vs : List V},RepL H ρ ps vs -> belL ρ.tr.length ps
  | [],_,_=>by simp [belL]
  | p :: ps,_,⟨_,_,_,r1,r2⟩=>by rw [belL]; exact ⟨Rep.bel r1,RepL.bel r2⟩
end
mutual
theorem Rep.less (ht : ρ.tr = tr0 ++ rest) (hh : ∀ a,a ∈ hs -> a ∈ ρ.hid) : ∀ {p : PV} {v : V},Sm.bel tr0.length p -> Rep H ρ p v -> Rep H ⟨tr0,hs⟩ p v
  | .non,_,_,r=>r
  | .bl _,_,_,r=>r
  | .int _,_,_,r=>r
  | .str _,_,_,r=>r
  | .tup ps,_,b,⟨a,vs,e,ha,na,r⟩=>⟨a,vs,e,ha,fun z=>na (z.imp (fun z=>by rw [ht]; exact List.mem_append_left _ z) (hh a)),RepL.less ht hh (by rw [Sm.bel] at b; exact b) r⟩
  | .lst ps,_,b,⟨a,vs,e,ha,na,r⟩=>⟨a,vs,e,ha,fun z=>na (z.imp (fun z=>by rw [ht]; exact List.mem_append_left _ z) (hh a)),RepL.less ht hh (by rw [Sm.bel] at b; exact b) r⟩
  | .fro ps,_,b,⟨a,vs,e,ha,na,r⟩=>⟨a,vs,e,ha,fun z=>na (z.imp (fun z=>by rw [ht]; exact List.mem_append_left _ z) (hh a)),RepL.less ht hh (by rw [Sm.bel] at b; exact b) r⟩
  | .ref i,_,b,⟨a,e,e2⟩=>⟨a,by rw [Sm.bel] at b; rw [ht,List.getElem?_append_left b] at e; exact e,e2⟩
  | .dic,_,_,⟨a,e,ha,na⟩=>⟨a,e,ha,fun z=>na (z.imp (fun z=>by rw [ht]; exact List.mem_append_left _ z) (hh a))⟩
theorem RepL.less (ht : ρ.tr = tr0 ++ rest) (hh : ∀ a,a ∈ hs -> a ∈ ρ.hid) : ∀ {ps : List PV} {vs : List V},belL tr0.length ps -> RepL H ρ ps vs -> RepL H ⟨tr0,hs⟩ ps vs
  | [],_,_,r=>r
  | p :: ps,_,b,⟨v,t,e,r1,r2⟩=>by
    rw [belL] at b
    exact ⟨v,t,e,Rep.less ht hh b.1 r1,RepL.less ht hh b.2 r2⟩
end
end
theorem rel_back {H H' : Hp} {ρ ρ' : Tk} {st st' : Store} (R : Rel H ρ st) (x : Ext H ρ H' ρ') (R' : Rel H' ρ' st') (hp : st <+: st') : Ext H ρ H' ρ /\ Rel H' ρ st:=by
  obtain ⟨rest,ht⟩:=x.pre
  obtain ⟨more,hm⟩:=hp
  refine ⟨⟨List.prefix_refl _,fun _ h=>h,fun _ h=>.inl h,x.keep,fun _ h=>.inl h,x.old⟩,R.len,R.nd,fun a ha=>let ⟨o,e⟩:=R.hd a ha; x.old a o e,R.ap,fun i a c h1 h2=>?_⟩
  have hi : i < st.length:=(List.getElem?_eq_some_iff.mp h2).1
  have q:=R'.cell i a c (by rw [<- ht,List.getElem?_append_left (List.getElem?_eq_some_iff.mp h1).1]; exact h1) (by rw [<- hm,List.getElem?_append_left hi]; exact h2)
  have q0:=R.cell i a c h1 h2
  cases c with
  | lst ps=>
    obtain ⟨vs,e1,e2⟩:=q
    obtain ⟨us,_,f2⟩:=q0
    exact ⟨vs,e1,RepL.less (ρ:=ρ') (tr0:=ρ.tr) (hs:=ρ.hid) ht.symm x.hidM f2.bel e2⟩
abbrev FN:=List PV -> Store -> Res PV
open Classical in
def fin (st : Store) (v : PV) (st' : Store) : Res PV:=if st <+: st' then okO st (fz st.length st' 16 v) else .ok v st'
open Classical in
def finX (st : Store) (x : Exc) (st' : Store) : Res PV:=if st <+: st' then (match x.fs with
  | none=>.exc x st
  | some (n,p)=>match fz st.length st' 16 p with
    | some q=>.exc ⟨x.cls,some (n,q)⟩ st
    | none=>.stuck) else .exc x st'
def callF (body : MS) (nl : Nat) : FN:=fun ps st=>match body (ps.map some ++ List.replicate (nl - ps.length) none) st with
  | .rt v st'=>fin st v st'
  | .nx _ st'=>fin st .non st'
  | .exc x st'=>finX st x st'
  | _=>.stuck
theorem fin_acc {mg : Str -> Option Value} {E : XK} {H : Hp} {ρ : Tk} {st st' : Store} {Q : VK} {p : PV} (R : Rel H ρ st) (h : Acc mg E H ρ (QV Q) (fin st p st')) : ∀ v H' ρ',Ext H ρ H' ρ' -> Rel H' ρ' st' -> Rep H' ρ' p v -> Q v H':=fun v H' ρ' x R' r=>by
  unfold fin at h
  by_cases hp : st <+: st'
  · rw [if_pos hp] at h
    cases e : fz st.length st' 16 p with
    | none=>rw [e] at h; exact h.elim
    | some q=>
      rw [e] at h
      obtain ⟨x2,R2⟩:=rel_back R x R' hp
      obtain ⟨rest,ht⟩:=x.pre
      rw [<- R.len] at e
      exact h H' ρ x2 R2 v (fz_rep (tr0:=ρ.tr) (hs:=ρ.hid) R' ht.symm x.hidM 16 r e)
  · rw [if_neg hp] at h
    exact h H' ρ' x R' v r
def spF (mg : Str -> Option Value) (n : Nat) (F : FN) : Sp:=fun vs H Q E=>vs.length = n /\ ∃ ρ st ps,Rel H ρ st /\ RepL H ρ ps vs /\ Acc mg E H ρ (QV Q) (F ps st)
theorem start_env {H : Hp} {ρ : Tk} {N : List Str} {ps : List PV} {vs : List V} (r : RepL H ρ ps vs) : EnvR H ρ (ps.map some ++ List.replicate (N.length - ps.length) none) (L2.start N vs):=by
  have hl:=r.length
  unfold L2.start
  refine ⟨by simp [hl],fun i p e=>?_⟩
  by_cases hi : i < ps.length
  · rw [List.getElem?_append_left (by simpa using hi),List.getElem?_map] at e
    rw [List.getElem?_append_left (by simp; omega),List.getElem?_map]
    cases q : ps[i]? with
    | none=>rw [q] at e; cases e
    | some p'=>
      rw [q] at e
      cases e
      obtain ⟨v,e1,e2⟩:=r.get q
      exact ⟨v,by rw [e1]; rfl,e2⟩
  · rw [List.getElem?_append_right (by simpa using hi),List.getElem?_replicate] at e
    split at e <;> cases e
section
variable {P : Program} {w : World} {K : PySem.W.Frag} {mg : Str -> Option Value} {base : Heap}
theorem fun_ok {x qual : Str} {st : Stmt} {f : Addr} {fd : FuncData} {N ps : List Str} {k : Nat} {m : MS} (F : Fun K x qual st f fd) (S : FnScope N ps (defScope st))
    (hb : ∀ (cdv : Value) (A : Around) (outer : List PySem.Env) (s : Shared) (H : Hp) (E : XK),Room k (A.deeper (PyProof.Rows.envOfC qual (defScope st) s.heap.objs.size f cdv)) -> SimB (cxD P w K mg base N qual (defScope st) f cdv A outer s H E) E (defBody st) m) :
    FnOk P w K mg base (CXD P w) (k + 1) f fd ps (spF mg ps.length (callF m N.length)):=by
  refine Fun.okD F S (fun vs H Q E h=>h.1) fun cdv A outer s H vs Q E hr hsp=>⟨_,pss_w,?_⟩
  obtain ⟨hl,ρ,st0,pvs,R,rl,hA⟩:=hsp
  refine (hb cdv A outer s H E hr).run _ (L2.start N vs) H ρ st0 _ R (start_env rl) ?_
  unfold callF at hA
  cases rr : m (pvs.map some ++ List.replicate (N.length - pvs.length) none) st0 with
  | rt v st1=>rw [rr] at hA; exact fin_acc R hA
  | nx Γ st1=>rw [rr] at hA; exact fun σ' H' ρ' x' R' G'=>fin_acc R hA .non H' ρ' x' R' rfl
  | bk Γ st1=>rw [rr] at hA; exact hA.elim
  | ct Γ st1=>rw [rr] at hA; exact hA.elim
  | stuck=>rw [rr] at hA; exact hA.elim
  | exc y st1=>
    rw [rr] at hA
    have hA : Acc mg E H ρ (QV Q) (finX st0 y st1):=hA
    intro C dv H' ρ' hm x' R' hf
    unfold finX at hA
    by_cases hp : st0 <+: st1
    · rw [if_pos hp] at hA
      obtain ⟨x2,R2⟩:=rel_back R x' R' hp
      obtain ⟨cls,fs⟩:=y
      cases fs with
      | none=>exact hA C dv H' ρ hm x2 R2 hf
      | some np=>
        obtain ⟨nm,p⟩:=np
        simp only at hA
        cases e : fz st0.length st1 16 p with
        | none=>rw [e] at hA; exact hA.elim
        | some q=>
          rw [e] at hA
          obtain ⟨rest,ht⟩:=x'.pre
          rw [<- R.len] at e
          obtain ⟨dx,v,e1,e2,e3,e4⟩:=hf
          refine hA C dv H' ρ hm x2 R2 ⟨dx,v,e1,e2,fun z=>e3 (z.imp (fun z=>by rw [<- ht]; exact List.mem_append_left _ z) (x'.hidM dx)),fz_rep (tr0:=ρ.tr) (hs:=ρ.hid) R' ht.symm x'.hidM 16 e4 e⟩
    · rw [if_neg hp] at hA
      exact hA C dv H' ρ' hm x' R' hf
end
theorem fun_ok2 {P : Program} {w : World} {K : PySem.W.Frag} {mg : Str -> Option Value} {base : Heap} {x qual : Str} {st : Stmt} {f : Addr} {fd : FuncData} {N ps : List Str} {k n nl : Nat} {m : MS} {FF : FN} (F : Fun K x qual st f fd) (S : FnScope N ps (defScope st)) (hn : ps.length = n) (hnl : N.length = nl) (hF : FF = callF m nl)
    (hb : ∀ (cdv : Value) (A : Around) (outer : List PySem.Env) (s : Shared) (H : Hp) (E : XK),Room k (A.deeper (PyProof.Rows.envOfC qual (defScope st) s.heap.objs.size f cdv)) -> SimB (cxD P w K mg base N qual (defScope st) f cdv A outer s H E) E (defBody st) m) :
    FnOk P w K mg base (CXD P w) (k + 1) f fd ps (spF mg n FF):=by
  subst hn; subst hnl; subst hF
  exact fun_ok F S hb
structure DefS (P : Program) (w : World) (K : PySem.W.Frag) (mg : Str -> Option Value) (base : Heap) (k : Nat) (x : Str) (n : Nat) (F : FN) : Prop where
  ex : ∃ (f : Addr) (fd : FuncData) (ps : List Str),FnOk P w K mg base (CXD P w) k f fd ps (spF mg n F) /\ mg x = some (.ref f) /\ PySem.W.keepIn K (.ref f) = true /\ Binds K fd ps [] /\ ps.length = n
def mCallF (n : Nat) (F : FN) (mr : Gam -> Store -> Res (List PV)) : ME:=fun Γ st=>(mr Γ st).bind fun ps st1=>if ps.length = n then F ps st1 else .stuck
section
variable {X : Cx} {E : XK} {k n : Nat} {x : Str} {F : FN} {p pos : Pos} {e : Expr} {es : List Expr} {mr : Gam -> Store -> Res (List PV)}
theorem se_call (D : DefS X.prog X.w X.K X.mg X.base k x n F) (hr : Room k X.A) (hx : Passes (CXD X.prog X.w) X E) (hg : Gl X x) (ha : SimA X E (e :: es) mr) (hdb : (x == ("__debug__" : Str)) = false:=by decide)
    (he : starEach (e :: es) X.env = (false,eval e X.env) :: starEach es X.env:=by rfl) (hpl : (backTo pos (starEach es X.env)).any (·.1) = false:=by rfl) : SimE X E (.Call (.Name x p) (e :: es) [] pos) (mCallF n F mr):=by
  obtain ⟨f,fd,ps,hF,hm,hk,hb,hl⟩:=D.ex
  exact ⟨fun Γ σ H ρ st Q R G h=>WE.of (pe_call hF hr hg hm hk hb .nil hx pa_w hdb he hpl) (ha.use R G h.bind fun qs st1 H1 ρ1 vs x1 R1 G1 r1 h1=>by
    by_cases hq : qs.length = n
    · rw [if_pos hq] at h1
      show spF X.mg n F (vs ++ []) H1 Q E
      rw [List.append_nil]
      exact ⟨by rw [<- r1.length]; exact hq,ρ1,st1,qs,R1,r1,h1⟩
    · rw [if_neg hq] at h1; exact h1.elim)⟩
end
end Sm
namespace Sm
open PySem PySem.Spec L2
@[simp] theorem bind_ok {α β : Type} (a : α) (st : Store) (f : α -> Store -> Res β) : (Res.ok a st).bind f = f a st:=rfl
@[simp] theorem bind_stuck {α β : Type} (f : α -> Store -> Res β) : (Res.stuck : Res α).bind f = .stuck:=rfl
@[simp] theorem bind_exc {α β : Type} (x : Exc) (st : Store) (f : α -> Store -> Res β) : (Res.exc x st : Res α).bind f = .exc x st:=rfl
@[simp] theorem sbind_ok {α : Type} (a : α) (st : Store) (f : α -> Store -> SR) : (Res.ok a st).sbind f = f a st:=rfl
@[simp] theorem sbind_stuck {α : Type} (f : α -> Store -> SR) : (Res.stuck : Res α).sbind f = .stuck:=rfl
@[simp] theorem sbind_exc {α : Type} (x : Exc) (st : Store) (f : α -> Store -> SR) : (Res.exc x st : Res α).sbind f = .exc x st:=rfl
@[simp] theorem mVar_eq (i : Nat) (Γ : Gam) (st : Store) : mVar i Γ st = (match Γ[i]? with | some (some p)=>.ok p st | _=>.stuck):=rfl
@[simp] theorem mC_eq (p : PV) (Γ : Gam) (st : Store) : mC p Γ st = .ok p st:=rfl
@[simp] theorem mOp_eq (o : OP) (a b : ME) (Γ : Gam) (st : Store) : mOp o a b Γ st = (a Γ st).bind fun x st1=>(b Γ st1).bind fun y st2=>o st2 x y:=rfl
@[simp] theorem asB_bl (b : Bool) (st : Store) : asB (.bl b) st = .ok b st:=rfl
@[simp] theorem toB_eq (m : ME) (Γ : Gam) (st : Store) : toB m Γ st = (m Γ st).bind asB:=rfl
def selB {α : Type} (x : PV) (A B : Res α) : Res α:=match x with
  | .bl true=>A
  | .bl false=>B
  | _=>.stuck
@[simp] theorem selB_bl {α : Type} (b : Bool) (A B : Res α) : selB (.bl b) A B = if b = true then A else B:=by cases b <;> rfl
@[simp] theorem mChain_eq (o o' : OP) (a b c : ME) (Γ : Gam) (st : Store) : mChain o o' a b c Γ st = (a Γ st).bind fun x st1=>(b Γ st1).bind fun y st2=>(o st2 x y).bind fun k st3=>selB k ((c Γ st3).bind fun z st4=>o' st4 y z) (.ok (.bl false) st3):=by
  unfold mChain
  refine congrArg _ (funext fun x=>funext fun st1=>congrArg _ (funext fun y=>funext fun st2=>congrArg _ (funext fun k=>funext fun st3=>?_)))
  cases k with
  | bl b=>cases b <;> rfl
  | _=>rfl
@[simp] theorem mAnd_eq (a b : ME) (Γ : Gam) (st : Store) : mAnd a b Γ st = (a Γ st).bind fun x st1=>selB x (b Γ st1) (.ok (.bl false) st1):=by
  unfold mAnd
  refine congrArg _ (funext fun x=>funext fun st1=>?_)
  cases x with
  | bl b=>cases b <;> rfl
  | _=>rfl
@[simp] theorem mOr_eq (a b : ME) (Γ : Gam) (st : Store) : mOr a b Γ st = (a Γ st).bind fun x st1=>selB x (.ok (.bl true) st1) (b Γ st1):=by
  unfold mOr
  refine congrArg _ (funext fun x=>funext fun st1=>?_)
  cases x with
  | bl b=>cases b <;> rfl
  | _=>rfl
@[simp] theorem mNot_eq (a : ME) (Γ : Gam) (st : Store) : mNot a Γ st = (a Γ st).bind fun x st1=>(match x with | .bl k=>.ok (.bl (!k)) st1 | _=>.stuck):=rfl
@[simp] theorem mNeg_eq (a : ME) (Γ : Gam) (st : Store) : mNeg a Γ st = (a Γ st).bind fun x st1=>(match x with | .int k=>.ok (.int (-k)) st1 | _=>.stuck):=rfl
@[simp] theorem tAndM_eq (a b : MT) (Γ : Gam) (st : Store) : tAndM a b Γ st = (a Γ st).bind fun k st1=>if k = true then b Γ st1 else .ok false st1:=rfl
@[simp] theorem tOrM_eq (a b : MT) (Γ : Gam) (st : Store) : tOrM a b Γ st = (a Γ st).bind fun k st1=>if k = true then .ok true st1 else b Γ st1:=rfl
@[simp] theorem tNotM_eq (a : MT) (Γ : Gam) (st : Store) : tNotM a Γ st = (a Γ st).bind fun k st1=>.ok (!k) st1:=rfl
@[simp] theorem mIf_eq (c : MT) (a b : ME) (Γ : Gam) (st : Store) : mIf c a b Γ st = (c Γ st).bind fun k st1=>if k = true then a Γ st1 else b Γ st1:=rfl
@[simp] theorem mNil_eq (Γ : Gam) (st : Store) : mNil Γ st = .ok [] st:=rfl
@[simp] theorem mCons_eq (m : ME) (mr : ML) (Γ : Gam) (st : Store) : mCons m mr Γ st = (m Γ st).bind fun p st1=>(mr Γ st1).bind fun ps st2=>.ok (p :: ps) st2:=rfl
@[simp] theorem mTup_eq (mr : ML) (Γ : Gam) (st : Store) : mTup mr Γ st = (mr Γ st).bind fun ps st1=>if ps.length <= lim then .ok (.tup ps) st1 else .stuck:=rfl
@[simp] theorem mLst_eq (mr : ML) (Γ : Gam) (st : Store) : mLst mr Γ st = (mr Γ st).bind fun ps st1=>if ps.length <= lim then .ok (.lst ps) st1 else .stuck:=rfl
@[simp] theorem mLstN_eq (mr : ML) (Γ : Gam) (st : Store) : mLstN mr Γ st = (mr Γ st).bind fun ps st1=>if ps.length <= lim then .ok ps st1 else .stuck:=rfl
@[simp] theorem mSl_eq (m : ME) (l h : Gam -> Store -> Res (Option Int)) (Γ : Gam) (st : Store) : mSl m l h Γ st = (m Γ st).bind fun p st1=>(l Γ st1).bind fun lo st2=>(h Γ st2).bind fun hi st3=>oSl st3 p lo hi:=rfl
@[simp] theorem mNoPart_eq (Γ : Gam) (st : Store) : mNoPart Γ st = .ok none st:=rfl
@[simp] theorem mPart_eq (m : ME) (Γ : Gam) (st : Store) : mPart m Γ st = (m Γ st).bind fun p st1=>(match p with | .int i=>.ok (some i) st1 | _=>.stuck):=rfl
@[simp] theorem mCall_eq (o : CF) (mr : ML) (Γ : Gam) (st : Store) : mCall o mr Γ st = (mr Γ st).bind fun ps st1=>o st1 ps:=rfl
@[simp] theorem mIsI_eq (T : String) (m : ME) (Γ : Gam) (st : Store) : mIsI T m Γ st = (m Γ st).bind fun p st1=>.ok (.bl (isI T p)) st1:=rfl
@[simp] theorem mVal_eq (m : ML) (Γ : Gam) (st : Store) : mVal m Γ st = (m Γ st).bind fun ps st1=>.ok (.lst ps) st1:=rfl
@[simp] theorem mTrk_eq (m : ML) (Γ : Gam) (st : Store) : mTrk m Γ st = (m Γ st).bind fun ps st1=>.ok (.ref st1.length) (st1 ++ [.lst ps]):=rfl
@[simp] theorem mCompN_eq (cap : List (Option Nat)) (ga : GA) (mi : MI) (mt : MT) (me : ME) (Γ : Gam) (st : Store) : mCompN cap ga mi mt me Γ st = (mi Γ st).bind fun iw st1=>noX (compG ga mt me iw.2 (capG cap Γ) iw.1 st1):=rfl
@[simp] theorem mTrue_eq (Γ : Gam) (st : Store) : mTrue Γ st = .ok true st:=rfl
@[simp] theorem mCallF_eq (n : Nat) (F : FN) (mr : ML) (Γ : Gam) (st : Store) : mCallF n F mr Γ st = (mr Γ st).bind fun ps st1=>if ps.length = n then F ps st1 else .stuck:=rfl
@[simp] theorem mNext_eq (Γ : Gam) (st : Store) : mNext Γ st = .nx Γ st:=rfl
@[simp] theorem mSeqS_eq (a b : MS) (Γ : Gam) (st : Store) : mSeqS a b Γ st = (match a Γ st with | .nx Γ1 st1=>b Γ1 st1 | r=>r):=rfl
@[simp] theorem mExpr_eq (m : ME) (Γ : Gam) (st : Store) : mExpr m Γ st = (m Γ st).sbind fun _ st1=>.nx Γ st1:=rfl
@[simp] theorem mRet_eq (m : ME) (Γ : Gam) (st : Store) : mRet m Γ st = (m Γ st).sbind fun p st1=>.rt p st1:=rfl
@[simp] theorem mRetN_eq (Γ : Gam) (st : Store) : mRetN Γ st = .rt .non st:=rfl
@[simp] theorem mSet_eq (i : Nat) (m : ME) (Γ : Gam) (st : Store) : mSet i m Γ st = (m Γ st).sbind fun p st1=>.nx (Γ.set i (some p)) st1:=rfl
@[simp] theorem mIfS_eq (c : MT) (a b : MS) (Γ : Gam) (st : Store) : mIfS c a b Γ st = (c Γ st).sbind fun k st1=>if k = true then a Γ st1 else b Γ st1:=rfl
@[simp] theorem mFor_eq (ga : GA) (mi : MI) (b : MS) (Γ : Gam) (st : Store) : mFor ga mi b Γ st = (mi Γ st).sbind fun iw st1=>forG ga b iw.2 iw.1 Γ st1:=rfl
@[simp] theorem mSeq_eq (m : ME) (Γ : Gam) (st : Store) : mSeq m Γ st = (m Γ st).bind fun p st1=>(match srcOf st1 p with | some (xs,w)=>if xs.length <= lim then .ok (xs,w) st1 else .stuck | none=>.stuck):=rfl
@[simp] theorem mRange1_eq (mr : ML) (Γ : Gam) (st : Store) : mRange1 mr Γ st = (mr Γ st).bind fun ps st1=>(match ps with | [.int j]=>if -(lim : Int) <= j /\ j <= lim then .ok (rangeI 0 j.toNat,[]) st1 else .stuck | _=>.stuck):=rfl
@[simp] theorem mRange2_eq (mr : ML) (Γ : Gam) (st : Store) : mRange2 mr Γ st = (mr Γ st).bind fun ps st1=>(match ps with | [.int i,.int j]=>if -(lim : Int) <= i /\ i <= lim /\ -(lim : Int) <= j /\ j <= lim then .ok (rangeI i (j - i).toNat,[]) st1 else .stuck | _=>.stuck):=rfl
@[simp] theorem mZip_eq (mr : ML) (Γ : Gam) (st : Store) : mZip mr Γ st = (mr Γ st).bind fun ps st1=>(match ps with | [p,q]=>(match srcOf st1 p,srcOf st1 q with | some (xs,w),some (ys,w')=>if xs.length <= lim then .ok (zipT xs ys,w ++ w') st1 else .stuck | _,_=>.stuck) | _=>.stuck):=rfl
@[simp] theorem mEnum_eq (mr : ML) (Γ : Gam) (st : Store) : mEnum mr Γ st = (mr Γ st).bind fun ps st1=>(match ps with | [p]=>(match srcOf st1 p with | some (xs,w)=>if xs.length <= lim then .ok (enumT 0 xs,w) st1 else .stuck | none=>.stuck) | _=>.stuck):=rfl
@[simp] theorem mBM_eq (f : MF) (mo : ME) (mr : ML) (Γ : Gam) (st : Store) : mBM f mo mr Γ st = (mo Γ st).bind fun p st1=>(match listOf st1 p with | some _=>(mr Γ st1).bind fun ps st2=>f st2 p ps | none=>.stuck):=rfl
@[simp] theorem mAsg_eq (ga : GA) (m : ME) (Γ : Gam) (st : Store) : mAsg ga m Γ st = (m Γ st).sbind fun p st1=>(match ga p Γ with | some Γ1=>.nx Γ1 st1 | none=>.stuck):=rfl
@[simp] theorem mSetIx_eq (mo mi m : ME) (Γ : Gam) (st : Store) : mSetIx mo mi m Γ st = (m Γ st).sbind fun p st1=>(mo Γ st1).sbind fun o st2=>(mi Γ st2).sbind fun i st3=>(match setIx st3 o i p with | some st4=>.nx Γ st4 | none=>.stuck):=rfl
@[simp] theorem mRaise_eq (x : Str) (m : ME) (Γ : Gam) (st : Store) : mRaise x m Γ st = (m Γ st).sbind fun _ st1=>.exc ⟨x,none⟩ st1:=rfl
@[simp] theorem gaName_eq (i : Nat) (p : PV) (Γ : Gam) : gaName i p Γ = some (Γ.set i (some p)):=rfl
@[simp] theorem gaNil_eq (Γ : Gam) : gaNil [] Γ = some Γ:=rfl
@[simp] theorem gaCons_eq (g : GA) (gs : GAs) (p : PV) (r : List PV) (Γ : Gam) : gaCons g gs (p :: r) Γ = (g p Γ).bind (gs r):=rfl
@[simp] theorem gaTup_eq (gs : GAs) (ps : List PV) (Γ : Gam) : gaTup gs (.tup ps) Γ = gs ps Γ:=rfl
@[simp] theorem noX_ok {α : Type} (a : α) (st : Store) : noX (Res.ok a st) = .ok a st:=rfl
@[simp] theorem noX_stuck {α : Type} : noX (Res.stuck : Res α) = .stuck:=rfl
@[simp] theorem okO_some {α : Type} (st : Store) (a : α) : okO st (some a) = .ok a st:=rfl
@[simp] theorem okO_none {α : Type} (st : Store) : okO st (none : Option α) = .stuck:=rfl
@[simp] theorem oI_eq (g : Int -> Int -> PV) (st : Store) (a b : Int) : oI g st (.int a) (.int b) = .ok (g a b) st:=rfl
@[simp] theorem oAdd_int (st : Store) (a b : Int) : oAdd st (.int a) (.int b) = .ok (.int (a + b)) st:=rfl
@[simp] theorem oAdd_tup (st : Store) (a b : List PV) : oAdd st (.tup a) (.tup b) = if a.length + b.length <= lim then .ok (.tup (a ++ b)) st else .stuck:=rfl
@[simp] theorem oMul_int (st : Store) (a b : Int) : oMul st (.int a) (.int b) = if (-(2 ^ 64) < a /\ a < 2 ^ 64) \/ (-(2 ^ 64) < b /\ b < 2 ^ 64) then .ok (.int (a * b)) st else .stuck:=rfl
@[simp] theorem oMul_tup (st : Store) (xs : List PV) (b : Int) : oMul st (.tup xs) (.int b) = if xs ≠ [] /\ 1 <= b /\ xs.length * b.toNat <= 4096 then .ok (.tup (List.replicate b.toNat xs).flatten) st else .stuck:=rfl
@[simp] theorem oMod_int (st : Store) (a b : Int) : oMod st (.int a) (.int b) = if 0 < b then .ok (.int (a % b)) st else .stuck:=rfl
@[simp] theorem oDiv_int (st : Store) (a b : Int) : oDiv st (.int a) (.int b) = if 0 < b /\ b < 1073741824 then .ok (.int (a / b)) st else .stuck:=rfl
@[simp] theorem oPow_int (st : Store) (a b : Int) : oPow st (.int a) (.int b) = if 0 <= b /\ b <= 1000000 /\ a.natAbs < 2 ^ 64 then .ok (.int (a ^ b.toNat)) st else .stuck:=rfl
@[simp] theorem oLt_int (st : Store) (a b : Int) : oLt st (.int a) (.int b) = .ok (.bl (decide (a < b))) st:=rfl
@[simp] theorem oEq_int (st : Store) (a b : Int) : oEq st (.int a) (.int b) = .ok (.bl (a == b)) st:=rfl
@[simp] theorem oNe_int (st : Store) (a b : Int) : oNe st (.int a) (.int b) = .ok (.bl (!(a == b))) st:=rfl
@[simp] theorem oEq_bl (st : Store) (a b : Bool) : oEq st (.bl a) (.bl b) = .ok (.bl (a == b)) st:=rfl
@[simp] theorem oNe_bl (st : Store) (a b : Bool) : oNe st (.bl a) (.bl b) = .ok (.bl (!(a == b))) st:=rfl
@[simp] theorem oEq_str (st : Store) (a b : Str) : oEq st (.str a) (.str b) = .ok (.bl (a == b)) st:=rfl
@[simp] theorem oNe_str (st : Store) (a b : Str) : oNe st (.str a) (.str b) = .ok (.bl (!(a == b))) st:=rfl
@[simp] theorem oIs_non (st : Store) (p : PV) : oIs st p .non = .ok (.bl (isNon p)) st:=rfl
@[simp] theorem oIs_bl (st : Store) (a b : Bool) : oIs st (.bl a) (.bl b) = .ok (.bl (a == b)) st:=rfl
@[simp] theorem oIsNot_non (st : Store) (p : PV) : oIsNot st p .non = .ok (.bl (!isNon p)) st:=rfl
@[simp] theorem oIsNot_bl (st : Store) (a b : Bool) : oIsNot st (.bl a) (.bl b) = .ok (.bl (a != b)) st:=rfl
@[simp] theorem lstOf_lst (st : Store) (xs : List PV) : lstOf st (.lst xs) = some xs:=rfl
@[simp] theorem listOf_lst (st : Store) (xs : List PV) : listOf st (.lst xs) = some xs:=rfl
@[simp] theorem listOf_fro (st : Store) (xs : List PV) : listOf st (.fro xs) = some xs:=rfl
@[simp] theorem seqOf_lst (st : Store) (xs : List PV) : seqOf st (.lst xs) = some xs:=rfl
@[simp] theorem seqOf_fro (st : Store) (xs : List PV) : seqOf st (.fro xs) = some xs:=rfl
@[simp] theorem seqOf_tup (st : Store) (xs : List PV) : seqOf st (.tup xs) = some xs:=rfl
@[simp] theorem srcOf_lst (st : Store) (xs : List PV) : srcOf st (.lst xs) = some (xs,[]):=rfl
@[simp] theorem srcOf_fro (st : Store) (xs : List PV) : srcOf st (.fro xs) = some (xs,[]):=rfl
@[simp] theorem srcOf_tup (st : Store) (xs : List PV) : srcOf st (.tup xs) = some (xs,[]):=rfl
@[simp] theorem oIx_tup (st : Store) (xs : List PV) (i : Int) : oIx st (.tup xs) (.int i) = okO st (atI xs i):=rfl
@[simp] theorem oIx_lst (st : Store) (xs : List PV) (i : Int) : oIx st (.lst xs) (.int i) = okO st (atI xs i):=rfl
@[simp] theorem oIx_fro (st : Store) (xs : List PV) (i : Int) : oIx st (.fro xs) (.int i) = okO st (atI xs i):=rfl
@[simp] theorem oSl_tup (st : Store) (xs : List PV) (l h : Option Int) : oSl st (.tup xs) l h = .ok (.tup (cut xs l h)) st:=rfl
@[simp] theorem oSl_lst (st : Store) (xs : List PV) (l h : Option Int) : oSl st (.lst xs) l h = .ok (.lst (cut xs l h)) st:=rfl
@[simp] theorem oSl_fro (st : Store) (xs : List PV) (l h : Option Int) : oSl st (.fro xs) l h = .ok (.lst (cut xs l h)) st:=rfl
@[simp] theorem cLen_tup (st : Store) (xs : List PV) : cLen st [.tup xs] = .ok (.int xs.length) st:=rfl
@[simp] theorem cLen_lst (st : Store) (xs : List PV) : cLen st [.lst xs] = .ok (.int xs.length) st:=rfl
@[simp] theorem cLen_fro (st : Store) (xs : List PV) : cLen st [.fro xs] = .ok (.int xs.length) st:=rfl
@[simp] theorem cList_tup (st : Store) (xs : List PV) : cList st [.tup xs] = .ok (.lst xs) st:=rfl
@[simp] theorem cList_lst (st : Store) (xs : List PV) : cList st [.lst xs] = .ok (.lst xs) st:=rfl
@[simp] theorem cList_fro (st : Store) (xs : List PV) : cList st [.fro xs] = .ok (.lst xs) st:=rfl
@[simp] theorem cTuple_tup (st : Store) (xs : List PV) : cTuple st [.tup xs] = .ok (.tup xs) st:=rfl
@[simp] theorem cTuple_lst (st : Store) (xs : List PV) : cTuple st [.lst xs] = .ok (.tup xs) st:=rfl
@[simp] theorem cBls_lst (g : List Bool -> PV) (st : Store) (bs : List Bool) : cBls g st [.lst (bs.map .bl)] = .ok (g bs) st:=by
  simp only [cBls,seqOf_lst,Option.bind_some,bls_map]
@[simp] theorem cInts_lst (g : List Int -> Option PV) (st : Store) (ns : List Int) : cInts g st [.lst (ns.map .int)] = okO st (g ns):=by
  simp only [cInts,seqOf_lst,Option.bind_some,ints_map]
@[simp] theorem cInts_tup (g : List Int -> Option PV) (st : Store) (ns : List Int) : cInts g st [.tup (ns.map .int)] = okO st (g ns):=by
  simp only [cInts,seqOf_tup,Option.bind_some,ints_map]
@[simp] theorem cMax_int (st : Store) (a b : Int) : cMax st [.int a,.int b] = .ok (.int (if b > a then b else a)) st:=rfl
@[simp] theorem cMin_int (st : Store) (a b : Int) : cMin st [.int a,.int b] = .ok (.int (if b < a then b else a)) st:=rfl
@[simp] theorem wOk_nil' (st : Store) : wOk [] st = True:=by simp [wOk]
@[simp] theorem fin_bl (st : Store) (b : Bool) : fin st (.bl b) st = .ok (.bl b) st:=by simp [fin,fz]
@[simp] theorem fin_int (st : Store) (b : Int) : fin st (.int b) st = .ok (.int b) st:=by simp [fin,fz]
@[simp] theorem fin_non (st : Store) : fin st .non st = .ok .non st:=by simp [fin,fz]
@[simp] theorem fin_str (st : Store) (b : Str) : fin st (.str b) st = .ok (.str b) st:=by simp [fin,fz]
theorem fin_good {st : Store} {v : PV} (g : good 12 v = true) : fin st v st = .ok v st:=by
  simp only [fin,List.prefix_rfl,if_true,fz_good g (by decide : 12 < 16),okO_some]
theorem lim_eq : lim = 1000000:=rfl
theorem compG_on {α : Type} (g f : α -> PV) {ga : GA} {me : ME} {w : Wt} {Γ0 : Gam} {st : Store} (hw : wOk w st) {ys : List α} (h : ∀ y ∈ ys,∃ Γ1,ga (g y) Γ0 = some Γ1 /\ me Γ1 st = .ok (f y) st) : compG ga mTrue me w Γ0 (ys.map g) st = .ok (ys.map f) st:=by
  induction ys with
  | nil=>simp [compG,hw]
  | cons y ys ih=>
    obtain ⟨Γ1,h1,h2⟩:=h y List.mem_cons_self
    have ih:=ih fun z hz=>h z (List.mem_cons_of_mem _ hz)
    rw [List.map_cons,compG,if_pos hw,h1]
    simp [h2,ih]
theorem compG_onF {α : Type} (g f : α -> PV) (t : α -> Bool) {ga : GA} {mt : MT} {me : ME} {w : Wt} {Γ0 : Gam} {st : Store} (hw : wOk w st) {ys : List α} (h : ∀ y ∈ ys,∃ Γ1,ga (g y) Γ0 = some Γ1 /\ mt Γ1 st = .ok (t y) st /\ (t y = true -> me Γ1 st = .ok (f y) st)) : compG ga mt me w Γ0 (ys.map g) st = .ok ((ys.filter t).map f) st:=by
  induction ys with
  | nil=>simp [compG,hw]
  | cons y ys ih=>
    obtain ⟨Γ1,h1,h2,h3⟩:=h y List.mem_cons_self
    have ih:=ih fun z hz=>h z (List.mem_cons_of_mem _ hz)
    rw [List.map_cons,compG,if_pos hw,h1]
    simp only [h2,bind_ok,ih]
    cases tx : t y with
    | true=>simp [h3 tx,tx,ih]
    | false=>simp [tx]
@[simp] theorem cBls_map {α : Type} (g : List Bool -> PV) (st : Store) (ys : List α) (b : α -> Bool) : cBls g st [.lst (ys.map fun y=>.bl (b y))] = .ok (g (ys.map b)) st:=by
  rw [show (ys.map fun y=>PV.bl (b y)) = (ys.map b).map .bl by rw [List.map_map]; rfl,cBls_lst]
@[simp] theorem cInts_map {α : Type} (g : List Int -> Option PV) (st : Store) (ys : List α) (b : α -> Int) : cInts g st [.lst (ys.map fun y=>.int (b y))] = okO st (g (ys.map b)):=by
  rw [show (ys.map fun y=>PV.int (b y)) = (ys.map b).map .int by rw [List.map_map]; rfl,cInts_lst]
theorem forG_search {α : Type} (g : α -> PV) (J : Gam -> Prop) (Pd : α -> Bool) (v : PV) {ga : GA} {body : MS} {w : Wt} {st : Store} (hw : wOk w st) : ∀ {xs : List α},(∀ x ∈ xs,∀ Γ,J Γ -> ∃ Γ1,ga (g x) Γ = some Γ1 /\ (Pd x = true -> ∃ Γ2,J Γ2 /\ body Γ1 st = .nx Γ2 st) /\ (Pd x = false -> body Γ1 st = .rt v st)) ->
    ∀ Γ,J Γ -> (xs.all Pd = true -> ∃ Γ',J Γ' /\ forG ga body w (xs.map g) Γ st = .nx Γ' st) /\ (xs.all Pd = false -> forG ga body w (xs.map g) Γ st = .rt v st)
  | [],_,Γ,hJ=>⟨fun _=>⟨Γ,hJ,by simp [forG,hw]⟩,fun h=>by simp at h⟩
  | x :: xs,h,Γ,hJ=>by
    obtain ⟨Γ1,h1,h2,h3⟩:=h x List.mem_cons_self Γ hJ
    rw [List.map_cons,forG,if_pos hw,h1]
    cases px : Pd x with
    | false=>
      refine ⟨fun z=>by simp [px] at z,fun _=>?_⟩
      simp only [h3 px]
    | true=>
      obtain ⟨Γ2,j2,e2⟩:=h2 px
      have ih:=forG_search g J Pd v (ga:=ga) (body:=body) hw (xs:=xs) (fun y hy=>h y (List.mem_cons_of_mem _ hy)) Γ2 j2
      simp only [e2,List.all_cons,px,Bool.true_and]
      exact ih
theorem forG_inv {α : Type} (g : α -> PV) {xs : List α} (I : Nat -> Gam -> Store -> Prop) {ga : GA} {body : MS} {w : Wt} (hw : ∀ i Γ st,I i Γ st -> wOk w st)
    (h : ∀ (i : Nat) x Γ st,xs[i]? = some x -> I i Γ st -> ∃ Γ1,ga (g x) Γ = some Γ1 /\ ∃ Γ2 st2,body Γ1 st = .nx Γ2 st2 /\ I (i + 1) Γ2 st2) {Γ : Gam} {st : Store} (h0 : I 0 Γ st) : ∃ Γ' st',forG ga body w (xs.map g) Γ st = .nx Γ' st' /\ I xs.length Γ' st':=by
  induction xs generalizing I Γ st with
  | nil=>exact ⟨Γ,st,by simp [forG,hw 0 Γ st h0],h0⟩
  | cons x xs ih=>
    obtain ⟨Γ1,h1,Γ2,st2,e2,i2⟩:=h 0 x Γ st rfl h0
    obtain ⟨Γ',st',e3,i3⟩:=ih (fun i=>I (i + 1)) (fun i Γ st z=>hw (i + 1) Γ st z) (fun i y Γ st hy z=>h (i + 1) y Γ st (by simpa using hy) z) i2
    refine ⟨Γ',st',?_,i3⟩
    rw [List.map_cons,forG,if_pos (hw 0 Γ st h0),h1]
    simp only [e2]
    exact e3
theorem forG_invL {α : Type} (g : α -> PV) {xs : List α} (I : List α -> Gam -> Store -> Prop) {ga : GA} {body : MS} {w : Wt} (hw : ∀ pre Γ st,I pre Γ st -> wOk w st)
    (h : ∀ pre x post Γ st,xs = pre ++ x :: post -> I pre Γ st -> ∃ Γ1,ga (g x) Γ = some Γ1 /\ ∃ Γ2 st2,body Γ1 st = .nx Γ2 st2 /\ I (pre ++ [x]) Γ2 st2) {Γ : Gam} {st : Store} (h0 : I [] Γ st) : ∃ Γ' st',forG ga body w (xs.map g) Γ st = .nx Γ' st' /\ I xs Γ' st':=by
  have key : ∀ (post pre : List α) (Γ : Gam) (st : Store),xs = pre ++ post -> I pre Γ st -> ∃ Γ' st',forG ga body w (post.map g) Γ st = .nx Γ' st' /\ I xs Γ' st':=by
    intro post
    induction post with
    | nil=>intro pre Γ st e i; exact ⟨Γ,st,by simp [forG,hw pre Γ st i],by rw [e,List.append_nil]; exact i⟩
    | cons x post ih=>
      intro pre Γ st e i
      obtain ⟨Γ1,h1,Γ2,st2,e2,i2⟩:=h pre x post Γ st e i
      obtain ⟨Γ',st',e3,i3⟩:=ih (pre ++ [x]) Γ2 st2 (by rw [e]; simp) i2
      refine ⟨Γ',st',?_,i3⟩
      rw [List.map_cons,forG,if_pos (hw pre Γ st i),h1]
      simp only [e2]
      exact e3
  exact key xs [] Γ st rfl h0
theorem enumT_map {α : Type} (f : α -> PV) : ∀ (n : Nat) (xs : List α),enumT n (xs.map f) = (xs.zipIdx n).map fun z=>.tup [.int (z.2 : Nat),f z.1]
  | n,[]=>rfl
  | n,x :: xs=>by rw [List.map_cons,enumT,enumT_map f (n + 1) xs]; rfl
theorem atI_map {α : Type} (f : α -> PV) (xs : List α) (i : Int) : atI (xs.map f) i = (atI xs i).map f:=by
  unfold atI
  rw [List.length_map]
  cases ixN xs.length i with
  | none=>rfl
  | some j=>simp [List.getElem?_map]
theorem atI_get {α : Type} {xs : List α} {i : Nat} {x : α} (h : xs[i]? = some x) : atI xs (i : Int) = some x:=by
  have hl:=(List.getElem?_eq_some_iff.mp h).1
  unfold atI ixN
  rw [if_pos (by omega),if_pos (by omega)]
  simpa using h
theorem cut_map {α : Type} (f : α -> PV) (xs : List α) (l h : Option Int) : cut (xs.map f) l h = (cut xs l h).map f:=by
  unfold cut
  rw [List.length_map,<- List.map_drop,<- List.map_take]
theorem rangeI0 (n : Nat) : rangeI 0 n = (List.range n).map fun (k : Nat)=>PV.int (k : Int):=by
  unfold rangeI
  refine List.map_congr_left fun k _=>?_
  rw [Int.zero_add]
@[simp] theorem tr_get {α : Type} (st l : List α) (c : α) : (st ++ c :: l)[st.length]? = some c:=by
  rw [List.getElem?_append_right (Nat.le_refl _),Nat.sub_self]; rfl
@[simp] theorem tr_get1 {α : Type} (st l : List α) (c d : α) : (st ++ c :: d :: l)[st.length + 1]? = some d:=by
  rw [List.getElem?_append_right (by omega)]
  rw [show st.length + 1 - st.length = 1 by omega]; rfl
@[simp] theorem tr_set {α : Type} (st l : List α) (c d : α) : (st ++ c :: l).set st.length d = st ++ d :: l:=by
  rw [List.set_append_right _ _ (Nat.le_refl _),Nat.sub_self]; rfl
@[simp] theorem tr_set1 {α : Type} (st l : List α) (c c' d : α) : (st ++ c :: c' :: l).set (st.length + 1) d = st ++ c :: d :: l:=by
  rw [List.set_append_right _ _ (by omega),show st.length + 1 - st.length = 1 by omega]; rfl
@[simp] theorem chg_ref (st : Store) (i : Nat) (g : List PV -> Option (PV × List PV)) : chg st (.ref i) g = (match st[i]? with | some (.lst xs)=>(match g xs with | some (r,ys)=>.ok r (st.set i (.lst ys)) | none=>.stuck) | none=>.stuck):=rfl
@[simp] theorem lstOf_r (st : Store) (i : Nat) : lstOf st (.ref i) = (match st[i]? with | some (.lst xs)=>some xs | none=>none):=rfl
@[simp] theorem listOf_r (st : Store) (i : Nat) : listOf st (.ref i) = (match st[i]? with | some (.lst xs)=>some xs | none=>none):=rfl
@[simp] theorem seqOf_r (st : Store) (i : Nat) : seqOf st (.ref i) = (match st[i]? with | some (.lst xs)=>some xs | none=>none):=rfl
@[simp] theorem srcOf_r (st : Store) (i : Nat) : srcOf st (.ref i) = (match st[i]? with | some (.lst xs)=>some (xs,[(i,xs)]) | none=>none):=rfl
@[simp] theorem mtAppend_eq (st : Store) (p y : PV) : mtAppend st p [y] = chg st p fun xs=>if xs.length < lim then some (.non,xs ++ [y]) else none:=rfl
@[simp] theorem cTuple_r (st : Store) (i : Nat) : cTuple st [.ref i] = (match st[i]? with | some (.lst xs)=>.ok (.tup xs) st | none=>.stuck):=by
  unfold cTuple; simp only [seqOf_r]
  cases st[i]? with
  | none=>rfl
  | some c=>cases c; rfl
@[simp] theorem cList_r (st : Store) (i : Nat) : cList st [.ref i] = (match st[i]? with | some (.lst xs)=>.ok (.lst xs) st | none=>.stuck):=by
  unfold cList; simp only [seqOf_r]
  cases st[i]? with
  | none=>rfl
  | some c=>cases c; rfl
@[simp] theorem cLen_r (st : Store) (i : Nat) : cLen st [.ref i] = (match st[i]? with | some (.lst xs)=>.ok (.int xs.length) st | none=>.stuck):=by
  unfold cLen; simp only [seqOf_r]
  cases st[i]? with
  | none=>rfl
  | some c=>cases c; rfl
@[simp] theorem oIx_r (st : Store) (i : Nat) (j : Int) : oIx st (.ref i) (.int j) = (match st[i]? with | some (.lst xs)=>okO st (atI xs j) | none=>.stuck):=by
  unfold oIx; simp only [seqOf_r]
  cases st[i]? with
  | none=>rfl
  | some c=>cases c; rfl
@[simp] theorem setIx_r (st : Store) (k : Nat) (j : Int) (p : PV) : setIx st (.ref k) (.int j) p = (match st[k]? with | some (.lst xs)=>(ixN xs.length j).map fun n=>st.set k (.lst (xs.set n p)) | none=>none):=rfl
theorem cut_front {α : Type} (xs : List α) (k : Nat) : cut xs none (some (k : Int)) = xs.take k:=by
  unfold cut
  rw [HT.sIx_none,HT.sIx_nat,List.drop_zero,Nat.sub_zero]
  rcases Nat.le_total k xs.length with h | h
  · rw [Nat.min_eq_left h]
  · rw [Nat.min_eq_right h,List.take_length,List.take_of_length_le h]
theorem cut_back {α : Type} (xs : List α) (k : Nat) : cut xs (some (k : Int)) none = xs.drop k:=by
  unfold cut
  rw [HT.sIx_none,HT.sIx_nat]
  rcases Nat.le_total k xs.length with h | h
  · rw [Nat.min_eq_left h,List.take_of_length_le (by rw [List.length_drop]; omega)]
  · rw [Nat.min_eq_right h,List.drop_length,List.drop_of_length_le h]; simp
end Sm
namespace Sm
open PySem PySem.Spec L2
theorem getD_some {α : Type} {l : List α} {j : Nat} (h : j < l.length) (d : α) : l[j]? = some (l.getD j d):=by
  rw [List.getD,List.getElem?_eq_getElem h]; rfl
def ListAt (st : Store) (V : PV) (xs : List PV) : Prop:=V = .lst xs \/ V = .fro xs \/ ∃ i,V = .ref i /\ st[i]? = some (.lst xs)
theorem ListAt.ix {st : Store} {V : PV} {xs : List PV} (h : ListAt st V xs) (j : Int) : oIx st V (.int j) = okO st (atI xs j):=by
  rcases h with rfl | rfl | ⟨i,rfl,e⟩
  · rfl
  · rfl
  · rw [oIx_r,e]
theorem ListAt.len {st : Store} {V : PV} {xs : List PV} (h : ListAt st V xs) : cLen st [V] = .ok (.int xs.length) st:=by
  rcases h with rfl | rfl | ⟨i,rfl,e⟩
  · rfl
  · rfl
  · rw [cLen_r,e]
theorem ListAt.src {st : Store} {V : PV} {xs : List PV} (h : ListAt st V xs) : ∃ w,srcOf st V = some (xs,w) /\ wOk w st:=by
  rcases h with rfl | rfl | ⟨i,rfl,e⟩
  · exact ⟨[],rfl,by simp⟩
  · exact ⟨[],rfl,by simp⟩
  · exact ⟨[(i,xs)],by rw [srcOf_r,e],by simp [wOk,e]⟩
theorem compG_inv {α : Type} (g : α -> PV) {xs : List α} (I : Nat -> List PV -> Store -> Prop) {ga : GA} {me : ME} {w : Wt} {Γ0 : Gam} (hw : ∀ i out st,I i out st -> wOk w st)
    (h : ∀ (i : Nat) x out st,xs[i]? = some x -> I i out st -> ∃ Γ1,ga (g x) Γ0 = some Γ1 /\ ∃ v st2,me Γ1 st = .ok v st2 /\ I (i + 1) (out ++ [v]) st2) {st : Store} (h0 : I 0 [] st) : ∃ out st',compG ga mTrue me w Γ0 (xs.map g) st = .ok out st' /\ I xs.length out st':=by
  have key : ∀ (ys : List α) (k : Nat) (pre : List PV) (st : Store),(∀ i,ys[i]? = xs[k + i]?) -> k + ys.length = xs.length -> I k pre st -> ∃ out st',compG ga mTrue me w Γ0 (ys.map g) st = .ok out st' /\ I xs.length (pre ++ out) st':=by
    intro ys
    induction ys with
    | nil=>
      intro k pre st e e2 i
      refine ⟨[],st,by simp [compG,hw k pre st i],?_⟩
      rw [List.append_nil,<- e2]; exact i
    | cons y ys ih=>
      intro k pre st e e2 i
      have e0 : xs[k]? = some y:=by have:=e 0; simpa using this.symm
      obtain ⟨Γ1,h1,v,st2,h2,i2⟩:=h k y pre st e0 i
      obtain ⟨out,st',h3,i3⟩:=ih (k + 1) (pre ++ [v]) st2 (fun i=>by
        have:=e (i + 1)
        rw [List.getElem?_cons_succ] at this
        rw [this]; congr 1; omega) (by rw [<- e2,List.length_cons]; omega) i2
      refine ⟨v :: out,st',?_,by simpa using i3⟩
      rw [List.map_cons,compG,if_pos (hw k pre st i),h1]
      simp [mTrue,h2,h3]
  obtain ⟨out,st',h1,h2⟩:=key xs 0 [] st (fun i=>by simp) (by simp) h0
  exact ⟨out,st',h1,by simpa using h2⟩
@[simp] theorem mListN_eq (ma : ME) (Γ : Gam) (st : Store) : mListN ma Γ st = (ma Γ st).bind fun p st1=>match seqOf st1 p with | some xs=>.ok xs st1 | none=>.stuck:=rfl
@[simp] theorem mAddN_eq (ma mb : ME) (Γ : Gam) (st : Store) : mAddN ma mb Γ st = (ma Γ st).bind fun x st1=>(mb Γ st1).bind fun y st2=>oAddN st2 x y:=rfl
@[simp] theorem mRepN_eq (ma mb : ME) (Γ : Gam) (st : Store) : mRepN ma mb Γ st = (ma Γ st).bind fun x st1=>(mb Γ st1).bind fun y st2=>oRepN st2 x y:=rfl
theorem ixN_nat {n k : Nat} (h : k < n) : ixN n (k : Int) = some k:=by
  unfold ixN
  rw [if_pos (by omega),if_pos (by omega)]
  simp
theorem peqL_self : ∀ {xs : List PV},(∀ x ∈ xs,peq x x = true) -> peqL xs xs = true
  | [],_=>rfl
  | x :: xs,h=>by
    rw [peqL,h x List.mem_cons_self,peqL_self fun y hy=>h y (List.mem_cons_of_mem _ hy)]; rfl
theorem peq_self : ∀ {n : Nat} {p : PV},good n p = true -> peq p p = true
  | n,.non,_=>rfl
  | n,.bl b,_=>by simp [peq]
  | n,.int b,_=>by simp [peq]
  | n,.str b,_=>by simp [peq]
  | n,.ref _,g=>by cases n <;> simp [good] at g
  | n,.dic,g=>by cases n <;> simp [good] at g
  | 0,.tup _,g=>by simp [good] at g
  | 0,.lst _,g=>by simp [good] at g
  | 0,.fro _,g=>by simp [good] at g
  | n + 1,.tup xs,g=>by
    rw [peq]; refine peqL_self fun x hx=>peq_self (n:=n) ?_
    simp [good] at g; exact g x hx
  | n + 1,.lst xs,g=>by
    rw [peq]; refine peqL_self fun x hx=>peq_self (n:=n) ?_
    simp [good] at g; exact g x hx
  | n + 1,.fro xs,g=>by
    rw [peq]; refine peqL_self fun x hx=>peq_self (n:=n) ?_
    simp [good] at g; exact g x hx
end Sm
namespace Sm
open PySem PySem.Spec L2
section
variable {X : Cx} {E : XK} {a b : Expr} {ma mb : ME} {pos : Pos}
def mRevN (ma mb : ME) : ML:=fun Γ st=>(ma Γ st).bind fun p st1=>(mb Γ st1).bind fun q st2=>match q,listOf st2 p with
  | .int i,some xs=>if i = -1 then .ok xs.reverse st2 else .stuck
  | _,_=>.stuck
@[simp] theorem mRevN_eq (ma mb : ME) (Γ : Gam) (st : Store) : mRevN ma mb Γ st = (ma Γ st).bind fun p st1=>(mb Γ st1).bind fun q st2=>match q,listOf st2 p with
  | .int i,some xs=>if i = -1 then .ok xs.reverse st2 else .stuck
  | _,_=>.stuck:=rfl
def mLRN (ma : ME) : ML:=fun Γ st=>(ma Γ st).bind fun p st1=>match p with
  | .int i=>if 0 <= i /\ i <= 1000000 then .ok ((List.range i.toNat).map fun (k : Nat)=>.int (k : Int)) st1 else .stuck
  | _=>.stuck
@[simp] theorem mLRN_eq (ma : ME) (Γ : Gam) (st : Store) : mLRN ma Γ st = (ma Γ st).bind fun p st1=>match p with
  | .int i=>if 0 <= i /\ i <= 1000000 then .ok ((List.range i.toNat).map fun (k : Nat)=>.int (k : Int)) st1 else .stuck
  | _=>.stuck:=rfl
def mLenSet (ma : ME) : ME:=fun Γ st=>(ma Γ st).bind fun p st1=>match (listOf st1 p).bind intsOf with
  | some ns=>if ns.length <= 4000 then .ok (.int (metN ns).length) st1 else .stuck
  | none=>.stuck
@[simp] theorem mLenSet_eq (ma : ME) (Γ : Gam) (st : Store) : mLenSet ma Γ st = (ma Γ st).bind fun p st1=>match (listOf st1 p).bind intsOf with
  | some ns=>if ns.length <= 4000 then .ok (.int (metN ns).length) st1 else .stuck
  | none=>.stuck:=rfl
end
end Sm
namespace Sm
open PySem PySem.Spec L2
def callK (body : MS) (nl : Nat) : FN:=fun ps st=>match body (ps.map some ++ List.replicate (nl - ps.length) none) st with
  | .rt v st'=>.ok v st'
  | .nx _ st'=>.ok .non st'
  | .exc x st'=>.exc x st'
  | _=>.stuck
section
variable {P : Program} {w : World} {K : PySem.W.Frag} {mg : Str -> Option Value} {base : Heap}
theorem fun_okK {x qual : Str} {st : Stmt} {f : Addr} {fd : FuncData} {N ps : List Str} {k : Nat} {m : MS} (F : Fun K x qual st f fd) (S : FnScope N ps (defScope st))
    (hb : ∀ (cdv : Value) (A : Around) (outer : List PySem.Env) (s : Shared) (H : Hp) (E : XK),Room k (A.deeper (PyProof.Rows.envOfC qual (defScope st) s.heap.objs.size f cdv)) -> SimB (cxD P w K mg base N qual (defScope st) f cdv A outer s H E) E (defBody st) m) :
    FnOk P w K mg base (CXD P w) (k + 1) f fd ps (spF mg ps.length (callK m N.length)):=by
  refine Fun.okD F S (fun vs H Q E h=>h.1) fun cdv A outer s H vs Q E hr hsp=>⟨_,pss_w,?_⟩
  obtain ⟨hl,ρ,st0,pvs,R,rl,hA⟩:=hsp
  refine (hb cdv A outer s H E hr).run _ (L2.start N vs) H ρ st0 _ R (start_env rl) ?_
  unfold callK at hA
  cases rr : m (pvs.map some ++ List.replicate (N.length - pvs.length) none) st0 with
  | rt v st1=>rw [rr] at hA; exact fun v H' ρ' x R' r=>hA H' ρ' x R' v r
  | nx Γ st1=>rw [rr] at hA; exact fun σ' H' ρ' x' R' G'=>hA H' ρ' x' R' .non rfl
  | bk Γ st1=>rw [rr] at hA; exact hA.elim
  | ct Γ st1=>rw [rr] at hA; exact hA.elim
  | stuck=>rw [rr] at hA; exact hA.elim
  | exc y st1=>rw [rr] at hA; exact hA
end
theorem fun_ok2K {P : Program} {w : World} {K : PySem.W.Frag} {mg : Str -> Option Value} {base : Heap} {x qual : Str} {st : Stmt} {f : Addr} {fd : FuncData} {N ps : List Str} {k n nl : Nat} {m : MS} {FF : FN} (F : Fun K x qual st f fd) (S : FnScope N ps (defScope st)) (hn : ps.length = n) (hnl : N.length = nl) (hF : FF = callK m nl)
    (hb : ∀ (cdv : Value) (A : Around) (outer : List PySem.Env) (s : Shared) (H : Hp) (E : XK),Room k (A.deeper (PyProof.Rows.envOfC qual (defScope st) s.heap.objs.size f cdv)) -> SimB (cxD P w K mg base N qual (defScope st) f cdv A outer s H E) E (defBody st) m) :
    FnOk P w K mg base (CXD P w) (k + 1) f fd ps (spF mg n FF):=by
  subst hn; subst hnl; subst hF
  exact fun_okK F S hb
end Sm
namespace Sm
open PySem PySem.Spec PyProof.Rows L2
section
variable {X : Cx} {E : XK} {pos : Pos} {a b : Expr} {ma mb : ME}
def mTR (ma : ME) : ME:=fun Γ st=>(ma Γ st).bind fun p st1=>match p with
  | .int i=>if 0 <= i /\ i <= 1000000 then .ok (.tup ((List.range i.toNat).map fun (k : Nat)=>.int (k : Int))) st1 else .stuck
  | _=>.stuck
@[simp] theorem mTR_eq (ma : ME) (Γ : Gam) (st : Store) : mTR ma Γ st = (ma Γ st).bind fun p st1=>match p with
  | .int i=>if 0 <= i /\ i <= 1000000 then .ok (.tup ((List.range i.toNat).map fun (k : Nat)=>.int (k : Int))) st1 else .stuck
  | _=>.stuck:=rfl
def mDic : ME:=fun _ st=>.ok .dic st
@[simp] theorem mDic_eq (Γ : Gam) (st : Store) : mDic Γ st = .ok .dic st:=rfl
def mRevT (ma mb : ME) : ME:=fun Γ st=>(ma Γ st).bind fun p st1=>(mb Γ st1).bind fun q st2=>match q,p with
  | .int i,.tup xs=>if i = -1 then .ok (.tup xs.reverse) st2 else .stuck
  | _,_=>.stuck
@[simp] theorem mRevT_eq (ma mb : ME) (Γ : Gam) (st : Store) : mRevT ma mb Γ st = (ma Γ st).bind fun p st1=>(mb Γ st1).bind fun q st2=>match q,p with
  | .int i,.tup xs=>if i = -1 then .ok (.tup xs.reverse) st2 else .stuck
  | _,_=>.stuck:=rfl
end
end Sm
namespace Sm
open PySem PySem.Spec L2
def mParts (m : ME) : ME:=fun Γ st=>(m Γ st).bind fun p st1=>match p with
  | .str x=>if x = "make" then .ok (.int 3) st1 else if x = "lend" then .ok (.int 4) st1 else if x = "use" then .ok (.int 3) st1 else .stuck
  | _=>.stuck
section
variable {X : Cx} {E : XK} {pos : Pos} {e : Expr} {m : ME}
end
section
end
def pick3 (k1 k2 k3 : Str) (p1 p2 p3 : PV) (st4 : Store) : PV -> Res PV
  | .str x=>if x = k1 then .ok p1 st4 else if x = k2 then .ok p2 st4 else if x = k3 then .ok p3 st4 else .stuck
  | _=>.stuck
def mDsp3 (k1 k2 k3 : Str) (m1 m2 m3 mi : ME) : ME:=fun Γ st=>(m1 Γ st).bind fun p1 st1=>(m2 Γ st1).bind fun p2 st2=>(m3 Γ st2).bind fun p3 st3=>(mi Γ st3).bind fun q st4=>pick3 k1 k2 k3 p1 p2 p3 st4 q
section
variable {X : Cx} {E : XK} {pos dpos : Pos} {e1 e2 e3 i : Expr} {m1 m2 m3 mi : ME} {k1 k2 k3 : Str} {j1 j2 j3 : Nat} {q1 q2 q3 : Pos}
end
def mRaiseI (x name : Str) (m : ME) : MS:=fun Γ st=>(m Γ st).sbind fun p st1=>.exc ⟨x,some (name,p)⟩ st1
section
variable {X : Cx} {E : XK} {pos : Pos} {e : Expr} {m : ME}
end
@[simp] theorem mParts_eq (m : ME) (Γ : Gam) (st : Store) : mParts m Γ st = (m Γ st).bind fun p st1=>(match p with
  | .str x=>if x = "make" then .ok (.int 3) st1 else if x = "lend" then .ok (.int 4) st1 else if x = "use" then .ok (.int 3) st1 else .stuck
  | _=>.stuck):=rfl
@[simp] theorem mDsp3_eq (k1 k2 k3 : Str) (m1 m2 m3 mi : ME) (Γ : Gam) (st : Store) : mDsp3 k1 k2 k3 m1 m2 m3 mi Γ st = (m1 Γ st).bind fun p1 st1=>(m2 Γ st1).bind fun p2 st2=>(m3 Γ st2).bind fun p3 st3=>(mi Γ st3).bind fun q st4=>pick3 k1 k2 k3 p1 p2 p3 st4 q:=rfl
@[simp] theorem pick3_str (k1 k2 k3 : Str) (p1 p2 p3 : PV) (st4 : Store) (x : Str) : pick3 k1 k2 k3 p1 p2 p3 st4 (.str x) = if x = k1 then .ok p1 st4 else if x = k2 then .ok p2 st4 else if x = k3 then .ok p3 st4 else .stuck:=rfl
@[simp] theorem mRaiseI_eq (x name : Str) (m : ME) (Γ : Gam) (st : Store) : mRaiseI x name m Γ st = (m Γ st).sbind fun p st1=>.exc ⟨x,some (name,p)⟩ st1:=rfl
end Sm
namespace Sm
open PySem PySem.Spec L2
section
variable {X : Cx} {E : XK}
def oEqD : OP:=fun st p q=>match fz 0 st 16 p,fz 0 st 16 q with
  | some p',some q'=>if good dep p' = true /\ good dep q' = true then .ok (.bl (peq p' q')) st else .stuck
  | _,_=>.stuck
theorem os_eqD (hu : X.A.units + 64 < cLine) : OpS X E (compareOp .Eq) oEqD:=⟨fun H ρ st p q x y Q R rp rq h=>by
  unfold oEqD at h
  split at h
  · rename_i p' q' e1 e2
    split at h
    · rename_i g
      intro pins s σ v u I rv ru
      have r1 : Rep H Tk.nil p' x:=fz_rep (tr0:=[]) (rest:=ρ.tr) (hs:=[]) R rfl (fun a z=>by cases z) 16 rp e1
      have r2 : Rep H Tk.nil q' y:=fz_rep (tr0:=[]) (rest:=ρ.tr) (hs:=[]) R rfl (fun a z=>by cases z) 16 rq e2
      exact (eqAts dep I g.1 g.2 (by unfold dep; omega) r1 rv r2 ru).2.1 _ _ _ _ ⟨.bl _,H,I,rfl,now R h rfl⟩
    · exact h.elim
  · exact h.elim⟩
end
end Sm
namespace Sm
open PySem PySem.Spec L2
structure AtS (K : PySem.W.Frag) (mg : Str -> Option Value) (name : Str) (st : Stmt) (ps : List Str) (f : Addr) (fd : FuncData) : Prop where
  F : Fun K name name st f fd
  m : mg name = some (.ref f)
  b : Binds K fd ps []
theorem atS_mk {K : PySem.W.Frag} {mg : Str -> Option Value} {h : Heap} {name : Str} {st : Stmt} {ps : List Str} {f : Addr} {oc : Value} {od an : Option Addr} {osl : Array (Option Value)} {kV doc pm cdv ct : Value} (X : K.In h) (G : h.Ns mainGlobals mg)
    (a : PySem.W.nsIn K mainGlobals name = some (some (.ref f))) (l : K.lookup f = some ⟨oc,od,.func (PySem.W.fnOf name name (defArgs st) (defBody st) (defScope st) .none kV doc pm an cdv ct),osl⟩) (c : PySem.W.codeIn K cdv name = true) (k : PySem.W.keepIn K (.ref f) = true)
    (b : ∀ (kV doc pm : Value) (an : Option Addr) (cdv ct : Value) (us : List Value),us.length = ps.length -> bindArgs (PySem.W.fnOf name name (defArgs st) (defBody st) (defScope st) .none kV doc pm an cdv ct) ⟨us,[]⟩ = pure (ps.zip us)) :
    AtS K mg name st ps f (PySem.W.fnOf name name (defArgs st) (defBody st) (defScope st) .none kV doc pm an cdv ct):=
  have F:=fun_mk (st:=st) l c k
  ⟨F,PySem.W.mg_of X G a,F.binds b⟩
theorem AtS.def {P : Program} {w : World} {K : PySem.W.Frag} {mg : Str -> Option Value} {base : Heap} {name : Str} {st : Stmt} {ps : List Str} {f : Addr} {fd : FuncData} {k n : Nat} {F : FN} (a : AtS K mg name st ps f fd) (hn : ps.length = n) (G : FnOk P w K mg base (CXD P w) k f fd ps (spF mg n F)) : DefS P w K mg base k name n F:=
  ⟨f,fd,ps,G,a.m,a.F.kp,a.b,hn⟩
def noL (K : PySem.W.Frag) : Bool:=K.all fun p=>match p.2.data with
  | .seq _ _=>(match p.2.cls with
    | .type n=>!(n == ("list" : Str))
    | _=>true)
  | _=>true
theorem lookup_mem {K : PySem.W.Frag} {a : Addr} {o : Obj} (h : K.lookup a = some o) : (a,o) ∈ K:=by
  induction K with
  | nil=>cases h
  | cons p K ih=>
    obtain ⟨b,u⟩:=p
    rw [List.lookup_cons] at h
    cases e : a == b with
    | true=>
      rw [e] at h
      have : a = b:=by simpa using e
      subst this
      cases h
      exact List.mem_cons_self
    | false=>
      rw [e] at h
      exact List.mem_cons_of_mem _ (ih h)
theorem noL_no {K : PySem.W.Frag} {a : Addr} {o : Obj} {its : Array Value} {n : Nat} (hL : noL K = true) (h : K.lookup a = some o) (hc : o.cls = .type "list") (hd : o.data = .seq its n) : False:=by
  have:=List.all_eq_true.mp hL _ (lookup_mem h)
  simp [hc,hd] at this
theorem repL_ints {H : Hp} {ρ : Tk} : ∀ ns : List Int,RepL H ρ (ns.map .int) (ns.map V.int)
  | []=>rfl
  | n :: ns=>⟨_,_,rfl,rfl,repL_ints ns⟩
theorem rel_nil (H : Hp) : Rel H Tk.nil []:=⟨rfl,List.nodup_nil,fun a h=>(by cases h),fun a h=>(by cases h),fun i a c h=>(by simp [Tk.nil] at h)⟩
def spLawS (K : PySem.W.Frag) : Sp:=fun vs H Q _=>∃ (a : Addr) (ns : List Int),vs = [.ref a] /\ SqL K H a (ns.map V.int) /\ ns.length <= 63 /\ ∀ H',Q (.bl true) H'
theorem law_imp {P : Program} {w : World} {K : PySem.W.Frag} {mg : Str -> Option Value} {base : Heap} {CX : CXT} {k : Nat} {f : Addr} {fd : FuncData} {ps : List Str} {FL : FN} (hL : noL K = true) (F : FnOk P w K mg base CX k f fd ps (spF mg 1 FL)) (hlaw : ∀ ns : List Int,ns.length <= 63 -> ∃ st',FL [.fro (ns.map .int)] [] = .ok (.bl true) st') : FnOk P w K mg base CX k f fd ps (spLawS K):=F.imp fun vs H Q E ⟨a,ns,e,hS,hl,hQ⟩=>by
  subst e
  obtain ⟨st',hF⟩:=hlaw ns hl
  have hR : Rd H a (.lst (ns.map V.int)):=by
    rcases hS with h | ⟨o,its,n,h1,h2,h3,h4,_⟩
    · exact h
    · exact (noL_no hL h1 h2 h4).elim
  refine ⟨rfl,Tk.nil,[],[.fro (ns.map .int)],rel_nil H,⟨_,_,rfl,⟨a,_,rfl,hR,Tk.not_nil a,repL_ints ns⟩,rfl⟩,?_⟩
  rw [hF]
  intro H' ρ' x R v r
  have e : v = .bl true:=r
  subst e
  exact hQ H'
theorem cxd_none {P : Program} {w : World} {H : Hp} {s : Shared} {e : Value} {s' : Shared} (h : CXD P w [] H s (fun _ _ _=>False) e s') : False:=by
  obtain ⟨_,_,_,_,_,_,_,_,_,z⟩:=h
  exact z
theorem walkS {l : PySem.W.OpenLaw} {k : Nat} {q : Program} {loose : List Str} {XP : (Str -> Option Value) -> Heap -> Prop} {YP : World -> Heap -> Prop} {d : DefRec} {K : Params -> PySem.W.Frag} (hn : l.most = some 63) (hr : Room k callerA) (hdf : d.params.defaults = [])
    (hY : ∀ (w : World) (h : Heap),YP w h -> (K w.params).In h)
    (F : ∀ (w : World) (mg : Str -> Option Value) (fa : Addr) (h : Heap),(K w.params).In h -> h.Ns mainGlobals mg -> mg d.name = some (.ref fa) ->
      ∃ fd : FuncData,(∀ (s : Shared) (u : Value),BindsTo s fd ⟨[u],[]⟩ [("script",u)]) /\ ∀ base : Heap,(K w.params).In base -> base.Ns mainGlobals mg -> FnOk l.prog w (K w.params) mg base (CXD l.prog w) k fa fd ["script"] (spLawS (K w.params))) :
    PySem.W.WalkO q loose XP YP l.row.toRowW d [] (fun f vs=>PySem.call f vs):=
  L2.walk_of (n:=63) (k:=k) (x := "script") (CX:=fun w=>CXD l.prog w) (sp:=fun w=>spLawS (K w.params)) hn (by decide) hdf hr hY F (fun _ _ a ns hl _ hS=>⟨a,ns,rfl,hS,hl,fun _=>rfl⟩) fun _ _ _ _ _ z=>cxd_none z
end Sm
namespace Lw
open PySem PySem.Spec L2 Sm
def top (i : Nat) : Stmt:=PySem.Challenge.pw_lendwharf_k12_steps.main.body.getD i (.Pass ⟨0,0,0,0⟩)
abbrev s_is_whole : Stmt:=top 17
abbrev s_is_between : Stmt:=top 18
abbrev s_is_row : Stmt:=top 21
abbrev s_is_table : Stmt:=top 22
abbrev s_is_house : Stmt:=top 23
abbrev s_rights : Stmt:=top 24
abbrev s_raised : Stmt:=top 26
abbrev s_made_some : Stmt:=top 29
abbrev s_lent_or_used_some : Stmt:=top 30
abbrev s_was_lent_some : Stmt:=top 31
abbrev s_has_root : Stmt:=top 32
abbrev s_rooted_houses : Stmt:=top 33
abbrev s_rootless_houses : Stmt:=top 34
abbrev s_comes_about : Stmt:=top 35
abbrev s_does_come_about : Stmt:=top 36
abbrev s_need_comes_about : Stmt:=top 37
abbrev s_open_places : Stmt:=top 38
abbrev s_rest_behind : Stmt:=top 39
abbrev s_next_place : Stmt:=top 40
abbrev s_step_at : Stmt:=top 41
abbrev s_steps : Stmt:=top 42
abbrev s__law_b_draw : Stmt:=top 44
abbrev s__law_b_whole : Stmt:=top 45
abbrev s__law_b_rights : Stmt:=top 46
abbrev s__law_b_busy : Stmt:=top 47
abbrev s__law_b_known : Stmt:=top 48
abbrev s__law_b_grown : Stmt:=top 49
abbrev s__law_b_told : Stmt:=top 50
abbrev s__law_b_is_step : Stmt:=top 51
abbrev s__law_b_lead : Stmt:=top 52
abbrev s__law_b_comes : Stmt:=top 53
abbrev s__law_b_bent : Stmt:=top 54
abbrev s_law : Stmt:=top 55
structure Txt (mg : Str -> Option Value) : Prop where
  b_all : mg "all" = none
  b_any : mg "any" = none
  b_bool : mg "bool" = none
  b_enumerate : mg "enumerate" = none
  b_int : mg "int" = none
  b_isinstance : mg "isinstance" = none
  b_len : mg "len" = none
  b_list : mg "list" = none
  b_max : mg "max" = none
  b_min : mg "min" = none
  b_range : mg "range" = none
  b_sum : mg "sum" = none
  b_tuple : mg "tuple" = none
  c_MOST_HOUSES : ∃ t,mg "MOST_HOUSES" = some (.int 8 t)
  c_MOST_STEPS : ∃ t,mg "MOST_STEPS" = some (.int 300 t)
section
variable {P : Program} {w : World} {K : PySem.W.Frag} {mg : Str -> Option Value} {base : Heap}
end
section
variable {P : Program} {w : World} {K : PySem.W.Frag} {mg : Str -> Option Value} {base : Heap}
def m_is_whole : MS:=(mRet (mAnd (mIsI "int" (mVar 0)) (mNot (mIsI "bool" (mVar 0)))))
def F_is_whole : FN:=callF m_is_whole 1
theorem sc_is_whole : FnScope ["thing"] ["thing"] (defScope s_is_whole):=⟨rfl,rfl,rfl,by decide +kernel,rfl,by decide +kernel,by decide +kernel⟩
theorem ok_is_whole {f : Addr} {fd : FuncData} (F : Fun K "is_whole" "is_whole" s_is_whole f fd) (T : Txt mg)   : FnOk P w K mg base (CXD P w) 1 f fd ["thing"] (spF mg 1 F_is_whole):=by
  refine fun_ok2 (k:=0) (m:=m_is_whole) F sc_is_whole rfl rfl rfl fun cdv A outer s H E hr=>?_
  exact (sb_one (ss_ret (se_and (se_isi (T := "int") (by decide) (se_var 0) rfl T.b_isinstance rfl T.b_int boot_int) (se_one (se_not (se_isi (T := "bool") (by decide) (se_var 0) rfl T.b_isinstance rfl T.b_bool boot_bool))))))
def m_is_between : MS:=(mRet (mAnd (mCallF 1 F_is_whole (mCons (mVar 0) mNil)) (mChain (oI fun a b=>.bl (decide (a <= b))) (oI fun a b=>.bl (decide (a <= b))) (mVar 1) (mVar 0) (mVar 2))))
def F_is_between : FN:=callF m_is_between 3
theorem sc_is_between : FnScope ["thing", "least", "most"] ["thing", "least", "most"] (defScope s_is_between):=⟨rfl,rfl,rfl,by decide +kernel,rfl,by decide +kernel,by decide +kernel⟩
theorem ok_is_between {f : Addr} {fd : FuncData} (F : Fun K "is_between" "is_between" s_is_between f fd) (T : Txt mg)  (D_is_whole : DefS P w K mg base 1 "is_whole" 1 F_is_whole) : FnOk P w K mg base (CXD P w) 2 f fd ["thing", "least", "most"] (spF mg 3 F_is_between):=by
  refine fun_ok2 (k:=1) (m:=m_is_between) F sc_is_between rfl rfl rfl fun cdv A outer s H E hr=>?_
  exact (sb_one (ss_ret (se_and (se_call D_is_whole (hr.mono (by decide)) pass_onD rfl (sa_cons (se_var 0) sa_nil)) (se_one (se_chain os_le os_le (se_var 1) (se_var 0) (se_var 2))))))
def e_is_row_1 : ME:=(mAnd (mCallF 1 F_is_whole (mCons (mVar 0) mNil)) (mOp (oI fun a b=>.bl (decide (b <= a))) (mVar 0) (mC (.int 0))))
def m_is_row : MS := (mSeqS (mIfS (tOrM (tNotM (toB (mIsI "tuple" (mVar 0)))) (toB (mOp oNe (mCall cLen (mCons (mVar 0) mNil)) (mOp oAdd (mVar 1) (mC (.int 1)))))) (mRet (mC (.bl false))) mNext)
    (mRet (mCall (cBls fun ns=>.bl (ns.all id)) (mCons (mVal (mCompN [none] (gaName 0) (mSeq (mVar 0)) mTrue e_is_row_1)) mNil))))
def F_is_row : FN:=callF m_is_row 2
theorem sc_is_row : FnScope ["thing", "n"] ["thing", "n"] (defScope s_is_row):=⟨rfl,rfl,rfl,by decide +kernel,rfl,by decide +kernel,by decide +kernel⟩
theorem ok_is_row {f : Addr} {fd : FuncData} (F : Fun K "is_row" "is_row" s_is_row f fd) (T : Txt mg)  (D_is_whole : DefS P w K mg base 1 "is_whole" 1 F_is_whole) : FnOk P w K mg base (CXD P w) 2 f fd ["thing", "n"] (spF mg 2 F_is_row):=by
  refine fun_ok2 (k:=1) (m:=m_is_row) F sc_is_row rfl rfl rfl fun cdv A outer s H E hr=>?_
  exact (sb_cons (ss_if (SimW.t (sw_or (st_not (st_val (se_isi (T := "tuple") (by decide) (se_var 0) rfl T.b_isinstance rfl T.b_tuple boot_tuple))) (sw_or1 (st_cmp (os_ne hr.units) (se_callB cs_len rfl T.b_len PySem.boot_len (sa_cons (se_var 0) sa_nil)) (se_op os_add (se_var 1) se_int))))) (sb_one (ss_ret se_bl)) sb_nil)
    (sb_one (ss_ret (se_callB (cs_all rfl) rfl T.b_all boot_all (sa_cons (se_val (sn_comp [none] ["part"] rfl (si_seq (se_var 0)) (fun _ _ _ _ _=>(sg_name (i:=0) (show (["part"] : List Str).Nodup by decide +kernel))) (fun _ _ _ _ _=>(se_and (se_call D_is_whole (hr.mono (by decide)) pass00D rfl (sa_cons (se_var 0) sa_nil)) (se_one (se_cmp os_ge (se_var 0) se_int)))) (fun _ _ _ _ _=>sts_nil) free_name)) sa_nil)))))
def e_is_table_1 : ME:=(mCallF 2 F_is_row (mCons (mVar 0) (mCons (mCall cLen (mCons (mVar 1) mNil)) mNil)))
def m_is_table : MS := (mSeqS (mIfS (tOrM (tNotM (toB (mIsI "tuple" (mVar 0)))) (tNotM (toB (mChain (oI fun a b => .bl (decide (a <= b))) (oI fun a b => .bl (decide (a <= b))) (mC (.int 1)) (mCall cLen (mCons (mVar 0) mNil)) (mC (.int 8)))))) (mRet (mC (.bl false))) mNext)
    (mRet (mCall (cBls fun ns=>.bl (ns.all id)) (mCons (mVal (mCompN [none,some 0] (gaName 0) (mSeq (mVar 0)) mTrue e_is_table_1)) mNil))))
def F_is_table : FN:=callF m_is_table 1
theorem sc_is_table : FnScope ["thing"] ["thing"] (defScope s_is_table):=⟨rfl,rfl,rfl,by decide +kernel,rfl,by decide +kernel,by decide +kernel⟩
theorem ok_is_table {f : Addr} {fd : FuncData} (F : Fun K "is_table" "is_table" s_is_table f fd) (T : Txt mg)  (D_is_row : DefS P w K mg base 2 "is_row" 2 F_is_row) : FnOk P w K mg base (CXD P w) 3 f fd ["thing"] (spF mg 1 F_is_table):=by
  refine fun_ok2 (k:=2) (m:=m_is_table) F sc_is_table rfl rfl rfl fun cdv A outer s H E hr=>?_
  exact (sb_cons (ss_if (SimW.t (sw_or (st_not (st_val (se_isi (T := "tuple") (by decide) (se_var 0) rfl T.b_isinstance rfl T.b_tuple boot_tuple))) (sw_or1 (st_not (st_chain os_le os_le se_int (se_callB cs_len rfl T.b_len PySem.boot_len (sa_cons (se_var 0) sa_nil)) (se_gint rfl T.c_MOST_HOUSES.choose_spec)))))) (sb_one (ss_ret se_bl)) sb_nil)
    (sb_one (ss_ret (se_callB (cs_all rfl) rfl T.b_all boot_all (sa_cons (se_val (sn_comp [none,some 0] ["row", "thing"] rfl (si_seq (se_var 0)) (fun _ _ _ _ _=>(sg_name (i:=0) (show (["row", "thing"] : List Str).Nodup by decide +kernel))) (fun _ _ _ _ _=>(se_call D_is_row (hr.mono (by decide)) pass00D rfl (sa_cons (se_var 0) (sa_cons (se_callB cs_len rfl T.b_len PySem.boot_len (sa_cons (se_var 1) sa_nil)) sa_nil)))) (fun _ _ _ _ _=>sts_nil) free_name)) sa_nil)))))
def m_is_house : MS:=(mRet (mCallF 3 F_is_between (mCons (mVar 1) (mCons (mC (.int 0)) (mCons (mOp (oI fun a b=>.int (a - b)) (mCall cLen (mCons (mVar 0) mNil)) (mC (.int 1))) mNil)))))
def F_is_house : FN:=callF m_is_house 2
theorem sc_is_house : FnScope ["table", "thing"] ["table", "thing"] (defScope s_is_house):=⟨rfl,rfl,rfl,by decide +kernel,rfl,by decide +kernel,by decide +kernel⟩
theorem ok_is_house {f : Addr} {fd : FuncData} (F : Fun K "is_house" "is_house" s_is_house f fd) (T : Txt mg)  (D_is_between : DefS P w K mg base 2 "is_between" 3 F_is_between) : FnOk P w K mg base (CXD P w) 3 f fd ["table", "thing"] (spF mg 2 F_is_house):=by
  refine fun_ok2 (k:=2) (m:=m_is_house) F sc_is_house rfl rfl rfl fun cdv A outer s H E hr=>?_
  exact (sb_one (ss_ret (se_call D_is_between (hr.mono (by decide)) pass_onD rfl (sa_cons (se_var 1) (sa_cons se_int (sa_cons (se_op os_sub (se_callB cs_len rfl T.b_len PySem.boot_len (sa_cons (se_var 0) sa_nil)) se_int) sa_nil))))))
def e_rights_1 : ME:=(mOp oIx (mVar 0) (mVar 1))
def m_rights : MS := (mSeqS (mIfS (tNotM (toB (mCallF 2 F_is_house (mCons (mVar 0) (mCons (mVar 1) mNil))))) (mRaise "NoHouse" (mC (.str "no house of this table"))) mNext)
    (mSeqS (mSet 2 (mCall (cInts fun ns=>some (.int ns.sum)) (mCons (mVal (mCompN [none,some 1] (gaName 0) (mSeq (mVar 0)) mTrue e_rights_1)) mNil)))
    (mSeqS (mSet 3 (mOp oIx (mVar 0) (mVar 1)))
    (mSeqS (mSet 4 (mOp (oI fun a b=>.int (a - b)) (mCall (cInts fun ns=>some (.int ns.sum)) (mCons (mVar 3) mNil)) (mOp oIx (mVar 3) (mVar 1))))
    (mRet (mOp (oI fun a b=>.int (a - b)) (mVar 2) (mVar 4)))))))
def F_rights : FN:=callF m_rights 5
theorem sc_rights : FnScope ["table", "house", "gained", "own", "spent"] ["table", "house"] (defScope s_rights):=⟨rfl,rfl,rfl,by decide +kernel,rfl,by decide +kernel,by decide +kernel⟩
theorem ok_rights {f : Addr} {fd : FuncData} (F : Fun K "rights" "rights" s_rights f fd) (T : Txt mg) (C_NoHouse : ∃ C,mg "NoHouse" = some (.ref C) /\ PySem.W.excIn K C bmVE "ValueError.__new__" = true) (D_is_house : DefS P w K mg base 3 "is_house" 2 F_is_house) : FnOk P w K mg base (CXD P w) 4 f fd ["table", "house"] (spF mg 2 F_rights):=by
  refine fun_ok2 (k:=3) (m:=m_rights) F sc_rights rfl rfl rfl fun cdv A outer s H E hr=>?_
  exact (sb_cons (ss_if (st_not (st_val (se_call D_is_house (hr.mono (by decide)) pass_onD rfl (sa_cons (se_var 0) (sa_cons (se_var 1) sa_nil))))) (sb_one (ss_raise rfl raiseDok rfl C_NoHouse.choose_spec.1 C_NoHouse.choose_spec.2 se_str)) sb_nil)
    (sb_cons (ss_set 2 sc_rights.nd (se_callB (cs_sum rfl) rfl T.b_sum boot_sum (sa_cons (se_val (sn_comp [none,some 1] ["row", "house"] rfl (si_seq (se_var 0)) (fun _ _ _ _ _=>(sg_name (i:=0) (show (["row", "house"] : List Str).Nodup by decide +kernel))) (fun _ _ _ _ _=>(se_ix (se_var 0) (se_var 1))) (fun _ _ _ _ _=>sts_nil) free_name)) sa_nil)))
    (sb_cons (ss_set 3 sc_rights.nd (se_ix (se_var 0) (se_var 1)))
    (sb_cons (ss_set 4 sc_rights.nd (se_op os_sub (se_callB (cs_sum rfl) rfl T.b_sum boot_sum (sa_cons (se_var 3) sa_nil)) (se_ix (se_var 3) (se_var 1))))
    (sb_one (ss_ret (se_op os_sub (se_var 2) (se_var 4))))))))
def m_raised : MS := (mSeqS (mSet 4 (mOp oIx (mVar 0) (mVar 1)))
    (mSeqS (mSet 5 (mOp oAdd (mOp oAdd (mSl (mVar 4) mNoPart (mPart (mVar 2))) (mTup (mCons (mOp oAdd (mOp oIx (mVar 4) (mVar 2)) (mVar 3)) mNil))) (mSl (mVar 4) (mPart (mOp oAdd (mVar 2) (mC (.int 1)))) mNoPart)))
    (mRet (mOp oAdd (mOp oAdd (mSl (mVar 0) mNoPart (mPart (mVar 1))) (mTup (mCons (mVar 5) mNil))) (mSl (mVar 0) (mPart (mOp oAdd (mVar 1) (mC (.int 1)))) mNoPart)))))
def F_raised : FN:=callF m_raised 6
theorem sc_raised : FnScope ["table", "house", "place", "k", "row", "higher"] ["table", "house", "place", "k"] (defScope s_raised):=⟨rfl,rfl,rfl,by decide +kernel,rfl,by decide +kernel,by decide +kernel⟩
theorem ok_raised {f : Addr} {fd : FuncData} (F : Fun K "raised" "raised" s_raised f fd) (T : Txt mg)   : FnOk P w K mg base (CXD P w) 1 f fd ["table", "house", "place", "k"] (spF mg 4 F_raised):=by
  refine fun_ok2 (k:=0) (m:=m_raised) F sc_raised rfl rfl rfl fun cdv A outer s H E hr=>?_
  exact (sb_cons (ss_set 4 sc_raised.nd (se_ix (se_var 0) (se_var 1)))
    (sb_cons (ss_set 5 sc_raised.nd (se_op os_add (se_op os_add (se_slice (se_var 4) so_none (so_some (se_var 2))) (se_tup (sa_cons (se_op os_add (se_ix (se_var 4) (se_var 2)) (se_var 3)) sa_nil))) (se_slice (se_var 4) (so_some (se_op os_add (se_var 2) se_int)) so_none)))
    (sb_one (ss_ret (se_op os_add (se_op os_add (se_slice (se_var 0) so_none (so_some (se_var 1))) (se_tup (sa_cons (se_var 5) sa_nil))) (se_slice (se_var 0) (so_some (se_op os_add (se_var 1) se_int)) so_none))))))
def m_made_some : MS:=(mRet (mOp (oI fun a b=>.bl (decide (b < a))) (mOp oIx (mOp oIx (mVar 0) (mVar 1)) (mVar 1)) (mC (.int 0))))
def F_made_some : FN:=callF m_made_some 2
theorem sc_made_some : FnScope ["table", "house"] ["table", "house"] (defScope s_made_some):=⟨rfl,rfl,rfl,by decide +kernel,rfl,by decide +kernel,by decide +kernel⟩
theorem ok_made_some {f : Addr} {fd : FuncData} (F : Fun K "made_some" "made_some" s_made_some f fd) (T : Txt mg)   : FnOk P w K mg base (CXD P w) 1 f fd ["table", "house"] (spF mg 2 F_made_some):=by
  refine fun_ok2 (k:=0) (m:=m_made_some) F sc_made_some rfl rfl rfl fun cdv A outer s H E hr=>?_
  exact (sb_one (ss_ret (se_cmp os_gt (se_ix (se_ix (se_var 0) (se_var 1)) (se_var 1)) se_int)))
def m_lent_or_used_some : MS := (mSeqS (mSet 2 (mOp oIx (mVar 0) (mVar 1)))
    (mRet (mOp (oI fun a b=>.bl (decide (b < a))) (mCall (cInts fun ns=>some (.int ns.sum)) (mCons (mVar 2) mNil)) (mOp oIx (mVar 2) (mVar 1)))))
def F_lent_or_used_some : FN:=callF m_lent_or_used_some 3
theorem sc_lent_or_used_some : FnScope ["table", "house", "row"] ["table", "house"] (defScope s_lent_or_used_some):=⟨rfl,rfl,rfl,by decide +kernel,rfl,by decide +kernel,by decide +kernel⟩
theorem ok_lent_or_used_some {f : Addr} {fd : FuncData} (F : Fun K "lent_or_used_some" "lent_or_used_some" s_lent_or_used_some f fd) (T : Txt mg)   : FnOk P w K mg base (CXD P w) 1 f fd ["table", "house"] (spF mg 2 F_lent_or_used_some):=by
  refine fun_ok2 (k:=0) (m:=m_lent_or_used_some) F sc_lent_or_used_some rfl rfl rfl fun cdv A outer s H E hr=>?_
  exact (sb_cons (ss_set 2 sc_lent_or_used_some.nd (se_ix (se_var 0) (se_var 1)))
    (sb_one (ss_ret (se_cmp os_gt (se_callB (cs_sum rfl) rfl T.b_sum boot_sum (sa_cons (se_var 2) sa_nil)) (se_ix (se_var 2) (se_var 1))))))
def e_was_lent_some_1 : ME:=(mOp (oI fun a b=>.bl (decide (b < a))) (mOp oIx (mOp oIx (mVar 2) (mVar 0)) (mVar 1)) (mC (.int 0)))
def t_was_lent_some_1 : MT:=(toB (mOp oNe (mVar 0) (mVar 1)))
def m_was_lent_some : MS:=(mRet (mCall (cBls fun ns=>.bl (ns.any id)) (mCons (mVal (mCompN [none,some 1,some 0] (gaName 0) (mSeq (mVar 2)) t_was_lent_some_1 e_was_lent_some_1)) mNil)))
def F_was_lent_some : FN:=callF m_was_lent_some 3
theorem sc_was_lent_some : FnScope ["table", "house", "lenders"] ["table", "house", "lenders"] (defScope s_was_lent_some):=⟨rfl,rfl,rfl,by decide +kernel,rfl,by decide +kernel,by decide +kernel⟩
theorem ok_was_lent_some {f : Addr} {fd : FuncData} (F : Fun K "was_lent_some" "was_lent_some" s_was_lent_some f fd) (T : Txt mg)   : FnOk P w K mg base (CXD P w) 1 f fd ["table", "house", "lenders"] (spF mg 3 F_was_lent_some):=by
  refine fun_ok2 (k:=0) (m:=m_was_lent_some) F sc_was_lent_some rfl rfl rfl fun cdv A outer s H E hr=>?_
  exact (sb_one (ss_ret (se_callB (cs_any rfl) rfl T.b_any boot_any (sa_cons (se_val (sn_comp [none,some 1,some 0] ["lender", "house", "table"] rfl (si_seq (se_var 2)) (fun _ _ _ _ _=>(sg_name (i:=0) (show (["lender", "house", "table"] : List Str).Nodup by decide +kernel))) (fun _ _ _ _ _=>(se_cmp os_gt (se_ix (se_ix (se_var 2) (se_var 0)) (se_var 1)) se_int)) (fun _ _ _ _ _=>(sts_one (st_cmp (os_ne hr.units) (se_var 0) (se_var 1)))) free_name)) sa_nil))))
def m_has_root : MS:=(mRet (mOr (mCallF 2 F_made_some (mCons (mVar 0) (mCons (mVar 1) mNil))) (mCallF 3 F_was_lent_some (mCons (mVar 0) (mCons (mVar 1) (mCons (mVar 2) mNil))))))
def F_has_root : FN:=callF m_has_root 3
theorem sc_has_root : FnScope ["table", "house", "ahead"] ["table", "house", "ahead"] (defScope s_has_root):=⟨rfl,rfl,rfl,by decide +kernel,rfl,by decide +kernel,by decide +kernel⟩
theorem ok_has_root {f : Addr} {fd : FuncData} (F : Fun K "has_root" "has_root" s_has_root f fd) (T : Txt mg)  (D_made_some : DefS P w K mg base 1 "made_some" 2 F_made_some) (D_was_lent_some : DefS P w K mg base 1 "was_lent_some" 3 F_was_lent_some) : FnOk P w K mg base (CXD P w) 2 f fd ["table", "house", "ahead"] (spF mg 3 F_has_root):=by
  refine fun_ok2 (k:=1) (m:=m_has_root) F sc_has_root rfl rfl rfl fun cdv A outer s H E hr=>?_
  exact (sb_one (ss_ret (se_or (se_call D_made_some (hr.mono (by decide)) pass_onD rfl (sa_cons (se_var 0) (sa_cons (se_var 1) sa_nil))) (se_one (se_call D_was_lent_some (hr.mono (by decide)) pass_onD rfl (sa_cons (se_var 0) (sa_cons (se_var 1) (sa_cons (se_var 2) sa_nil))))))))
def e_rooted_houses_1 : ME:=(mVar 0)
def t_rooted_houses_1 : MT:=(toB (mOp (oIn true) (mVar 0) (mVar 1)))
def e_rooted_houses_2 : ME:=(mVar 0)
def t_rooted_houses_2 : MT:=(toB (mCallF 3 F_has_root (mCons (mVar 1) (mCons (mVar 0) (mCons (mVar 2) mNil)))))
def b_rooted_houses_1 : MS := (mSeqS (mSet 3 (mVal (mCompN [none, some 1] (gaName 0) (mRange1 (mCons (mCall cLen (mCons (mVar 0) mNil)) mNil)) t_rooted_houses_1 e_rooted_houses_1)))
    (mSeqS (mSet 4 (mVal (mCompN [none,some 0,some 1] (gaName 0) (mSeq (mVar 3)) t_rooted_houses_2 e_rooted_houses_2)))
    (mSeqS (mExpr (mBM mtExtend (mVar 1) (mCons (mVar 4) mNil)))
    (mSet 2 (mOp (oI fun a b=>.bl (decide (b < a))) (mCall cLen (mCons (mVar 4) mNil)) (mC (.int 0)))))))
def w_rooted_houses_1 : MT:=(toB (mVar 2))
def m_rooted_houses : MS := (mSeqS (mSet 1 (mTrk (mLstN mNil)))
    (mSeqS (mSet 2 (mC (.bl true)))
    (mSeqS (whileG w_rooted_houses_1 b_rooted_houses_1 100000)
    (mRet (mVar 1)))))
def F_rooted_houses : FN:=callF m_rooted_houses 5
theorem sc_rooted_houses : FnScope ["table", "roots", "grows", "others", "found"] ["table"] (defScope s_rooted_houses):=⟨rfl,rfl,rfl,by decide +kernel,rfl,by decide +kernel,by decide +kernel⟩
theorem ok_rooted_houses {f : Addr} {fd : FuncData} (F : Fun K "rooted_houses" "rooted_houses" s_rooted_houses f fd) (T : Txt mg)  (D_has_root : DefS P w K mg base 2 "has_root" 3 F_has_root) : FnOk P w K mg base (CXD P w) 3 f fd ["table"] (spF mg 1 F_rooted_houses):=by
  refine fun_ok2 (k:=2) (m:=m_rooted_houses) F sc_rooted_houses rfl rfl rfl fun cdv A outer s H E hr=>?_
  exact (sb_cons (ss_set 1 sc_rooted_houses.nd (se_trk (sn_lst sa_nil)))
    (sb_cons (ss_set 2 sc_rooted_houses.nd se_bl)
    (sb_cons (ss_while 100000 PassesOwn.leaving (st_val (se_var 2)) (sb_cons (by first | exact ss_compV [none,some 1] ["house", "roots"] 3 sc_rooted_houses.nd rfl (si_range1 rfl T.b_range (sa_cons (se_callB cs_len rfl T.b_len PySem.boot_len (sa_cons (se_var 0) sa_nil)) sa_nil)) (fun _ _ _ _ _=>(sg_name (i:=0) (show (["house", "roots"] : List Str).Nodup by decide +kernel))) (fun _ _ _ _ _=>(se_var 0)) (fun _ _ _ _ _=>(sts_one (st_cmp (os_notin hr.units) (se_var 0) (se_var 1)))) free_name | exact ss_set 3 sc_rooted_houses.nd (se_val (sn_comp [none,some 1] ["house", "roots"] rfl (si_range1 rfl T.b_range (sa_cons (se_callB cs_len rfl T.b_len PySem.boot_len (sa_cons (se_var 0) sa_nil)) sa_nil)) (fun _ _ _ _ _=>(sg_name (i:=0) (show (["house", "roots"] : List Str).Nodup by decide +kernel))) (fun _ _ _ _ _=>(se_var 0)) (fun _ _ _ _ _=>(sts_one (st_cmp (os_notin hr.units) (se_var 0) (se_var 1)))) free_name)))
    (sb_cons (by first | exact ss_compV [none,some 0,some 1] ["house", "table", "roots"] 4 sc_rooted_houses.nd rfl (si_seq (se_var 3)) (fun _ _ _ _ _=>(sg_name (i:=0) (show (["house", "table", "roots"] : List Str).Nodup by decide +kernel))) (fun _ _ _ _ _=>(se_var 0)) (fun _ _ _ _ _=>(sts_one (st_val (se_call D_has_root (hr.mono (by decide)) pass00D rfl (sa_cons (se_var 1) (sa_cons (se_var 0) (sa_cons (se_var 2) sa_nil))))))) free_name | exact ss_set 4 sc_rooted_houses.nd (se_val (sn_comp [none,some 0,some 1] ["house", "table", "roots"] rfl (si_seq (se_var 3)) (fun _ _ _ _ _=>(sg_name (i:=0) (show (["house", "table", "roots"] : List Str).Nodup by decide +kernel))) (fun _ _ _ _ _=>(se_var 0)) (fun _ _ _ _ _=>(sts_one (st_val (se_call D_has_root (hr.mono (by decide)) pass00D rfl (sa_cons (se_var 1) (sa_cons (se_var 0) (sa_cons (se_var 2) sa_nil))))))) free_name)))
    (sb_cons (ss_expr (se_extend (se_var 1) (sa_cons (se_var 4) sa_nil)))
    (sb_one (ss_set 2 sc_rooted_houses.nd (se_cmp os_gt (se_callB cs_len rfl T.b_len PySem.boot_len (sa_cons (se_var 4) sa_nil)) se_int)))))))
    (sb_one (ss_ret (se_var 1))))))
def e_rootless_houses_1 : ME:=(mVar 0)
def t_rootless_houses_1 : MT:=(toB (mOp (oIn true) (mVar 0) (mVar 1)))
def e_rootless_houses_2 : ME:=(mCallF 2 F_lent_or_used_some (mCons (mVar 1) (mCons (mVar 0) mNil)))
def m_rootless_houses : MS := (mSeqS (mSet 1 (mCallF 1 F_rooted_houses (mCons (mVar 0) mNil)))
    (mSeqS (mSet 2 (mVal (mCompN [none,some 1] (gaName 0) (mRange1 (mCons (mCall cLen (mCons (mVar 0) mNil)) mNil)) t_rootless_houses_1 e_rootless_houses_1)))
    (mSeqS (mIfS (toB (mCall (cBls fun ns=>.bl (ns.any id)) (mCons (mVal (mCompN [none,some 0] (gaName 0) (mSeq (mVar 2)) mTrue e_rootless_houses_2)) mNil))) (mRet (mVar 2)) mNext)
    (mRet (mLst mNil)))))
def F_rootless_houses : FN:=callF m_rootless_houses 3
theorem sc_rootless_houses : FnScope ["table", "roots", "others"] ["table"] (defScope s_rootless_houses):=⟨rfl,rfl,rfl,by decide +kernel,rfl,by decide +kernel,by decide +kernel⟩
theorem ok_rootless_houses {f : Addr} {fd : FuncData} (F : Fun K "rootless_houses" "rootless_houses" s_rootless_houses f fd) (T : Txt mg)  (D_rooted_houses : DefS P w K mg base 3 "rooted_houses" 1 F_rooted_houses) (D_lent_or_used_some : DefS P w K mg base 1 "lent_or_used_some" 2 F_lent_or_used_some) : FnOk P w K mg base (CXD P w) 4 f fd ["table"] (spF mg 1 F_rootless_houses):=by
  refine fun_ok2 (k:=3) (m:=m_rootless_houses) F sc_rootless_houses rfl rfl rfl fun cdv A outer s H E hr=>?_
  exact (sb_cons (ss_set 1 sc_rootless_houses.nd (se_call D_rooted_houses (hr.mono (by decide)) pass_onD rfl (sa_cons (se_var 0) sa_nil)))
    (sb_cons (by first | exact ss_compV [none,some 1] ["house", "roots"] 2 sc_rootless_houses.nd rfl (si_range1 rfl T.b_range (sa_cons (se_callB cs_len rfl T.b_len PySem.boot_len (sa_cons (se_var 0) sa_nil)) sa_nil)) (fun _ _ _ _ _=>(sg_name (i:=0) (show (["house", "roots"] : List Str).Nodup by decide +kernel))) (fun _ _ _ _ _=>(se_var 0)) (fun _ _ _ _ _=>(sts_one (st_cmp (os_notin hr.units) (se_var 0) (se_var 1)))) free_name | exact ss_set 2 sc_rootless_houses.nd (se_val (sn_comp [none,some 1] ["house", "roots"] rfl (si_range1 rfl T.b_range (sa_cons (se_callB cs_len rfl T.b_len PySem.boot_len (sa_cons (se_var 0) sa_nil)) sa_nil)) (fun _ _ _ _ _=>(sg_name (i:=0) (show (["house", "roots"] : List Str).Nodup by decide +kernel))) (fun _ _ _ _ _=>(se_var 0)) (fun _ _ _ _ _=>(sts_one (st_cmp (os_notin hr.units) (se_var 0) (se_var 1)))) free_name)))
    (sb_cons (ss_if (st_val (se_callB (cs_any rfl) rfl T.b_any boot_any (sa_cons (se_val (sn_comp [none,some 0] ["house", "table"] rfl (si_seq (se_var 2)) (fun _ _ _ _ _=>(sg_name (i:=0) (show (["house", "table"] : List Str).Nodup by decide +kernel))) (fun _ _ _ _ _=>(se_call D_lent_or_used_some (hr.mono (by decide)) pass00D rfl (sa_cons (se_var 1) (sa_cons (se_var 0) sa_nil)))) (fun _ _ _ _ _=>sts_nil) free_name)) sa_nil))) (sb_one (ss_ret (se_var 2))) sb_nil)
    (sb_one (ss_ret (se_lst sa_nil))))))
def b_comes_about_1 : MS:=(mIfS (toB (mOp oLt (mCallF 2 F_rights (mCons (mVar 0) (mCons (mVar 1) mNil))) (mC (.int 0)))) (mRet (mTup (mCons (mC (.str "short")) (mCons (mVar 1) mNil)))) mNext)
def m_comes_about : MS := (mSeqS (mFor (gaName 1) (mRange1 (mCons (mCall cLen (mCons (mVar 0) mNil)) mNil)) b_comes_about_1)
    (mSeqS (mSet 2 (mCallF 1 F_rootless_houses (mCons (mVar 0) mNil)))
    (mSeqS (mIfS (toB (mOp (oI fun a b=>.bl (decide (b < a))) (mCall cLen (mCons (mVar 2) mNil)) (mC (.int 0)))) (mRet (mTup (mCons (mC (.str "rootless")) (mCons (mVar 2) mNil)))) mNext)
    (mRet (mTup (mCons (mC (.str "comes")) (mCons (mCallF 1 F_rooted_houses (mCons (mVar 0) mNil)) mNil)))))))
def F_comes_about : FN:=callF m_comes_about 3
theorem sc_comes_about : FnScope ["table", "house", "rootless"] ["table"] (defScope s_comes_about):=⟨rfl,rfl,rfl,by decide +kernel,rfl,by decide +kernel,by decide +kernel⟩
theorem ok_comes_about {f : Addr} {fd : FuncData} (F : Fun K "comes_about" "comes_about" s_comes_about f fd) (T : Txt mg)  (D_rights : DefS P w K mg base 4 "rights" 2 F_rights) (D_rootless_houses : DefS P w K mg base 4 "rootless_houses" 1 F_rootless_houses) (D_rooted_houses : DefS P w K mg base 3 "rooted_houses" 1 F_rooted_houses) : FnOk P w K mg base (CXD P w) 5 f fd ["table"] (spF mg 1 F_comes_about):=by
  refine fun_ok2 (k:=4) (m:=m_comes_about) F sc_comes_about rfl rfl rfl fun cdv A outer s H E hr=>?_
  exact (sb_cons (ss_for PassesOwn.leaving rfl (si_range1 rfl T.b_range (sa_cons (se_callB cs_len rfl T.b_len PySem.boot_len (sa_cons (se_var 0) sa_nil)) sa_nil)) (sg_name (i:=1) sc_comes_about.nd) (sb_one (ss_if (st_cmp (os_lt hr.units) (se_call D_rights (hr.mono (by decide)) pass_onD rfl (sa_cons (se_var 0) (sa_cons (se_var 1) sa_nil))) se_int) (sb_one (ss_ret (se_tup (sa_cons se_str (sa_cons (se_var 1) sa_nil))))) sb_nil)))
    (sb_cons (ss_set 2 sc_comes_about.nd (se_call D_rootless_houses (hr.mono (by decide)) pass_onD rfl (sa_cons (se_var 0) sa_nil)))
    (sb_cons (ss_if (st_cmp os_gt (se_callB cs_len rfl T.b_len PySem.boot_len (sa_cons (se_var 2) sa_nil)) se_int) (sb_one (ss_ret (se_tup (sa_cons se_str (sa_cons (se_var 2) sa_nil))))) sb_nil)
    (sb_one (ss_ret (se_tup (sa_cons se_str (sa_cons (se_call D_rooted_houses (hr.mono (by decide)) pass_onD rfl (sa_cons (se_var 0) sa_nil)) sa_nil))))))))
def m_does_come_about : MS:=(mRet (mAnd (mCallF 1 F_is_table (mCons (mVar 0) mNil)) (mOp oEq (mOp oIx (mCallF 1 F_comes_about (mCons (mVar 0) mNil)) (mC (.int 0))) (mC (.str "comes")))))
def F_does_come_about : FN:=callF m_does_come_about 1
theorem sc_does_come_about : FnScope ["thing"] ["thing"] (defScope s_does_come_about):=⟨rfl,rfl,rfl,by decide +kernel,rfl,by decide +kernel,by decide +kernel⟩
theorem ok_does_come_about {f : Addr} {fd : FuncData} (F : Fun K "does_come_about" "does_come_about" s_does_come_about f fd) (T : Txt mg)  (D_is_table : DefS P w K mg base 3 "is_table" 1 F_is_table) (D_comes_about : DefS P w K mg base 5 "comes_about" 1 F_comes_about) : FnOk P w K mg base (CXD P w) 6 f fd ["thing"] (spF mg 1 F_does_come_about):=by
  refine fun_ok2 (k:=5) (m:=m_does_come_about) F sc_does_come_about rfl rfl rfl fun cdv A outer s H E hr=>?_
  exact (sb_one (ss_ret (se_and (se_call D_is_table (hr.mono (by decide)) pass_onD rfl (sa_cons (se_var 0) sa_nil)) (se_one (se_cmp (os_eq hr.units) (se_ix (se_call D_comes_about (hr.mono (by decide)) pass_onD rfl (sa_cons (se_var 0) sa_nil)) se_int) se_str)))))
def m_need_comes_about : MS:=(mIfS (tNotM (toB (mCallF 1 F_does_come_about (mCons (mVar 0) mNil)))) (mRaise "NoTable" (mC (.str "no table that comes about"))) mNext)
def F_need_comes_about : FN:=callF m_need_comes_about 1
theorem sc_need_comes_about : FnScope ["thing"] ["thing"] (defScope s_need_comes_about):=⟨rfl,rfl,rfl,by decide +kernel,rfl,by decide +kernel,by decide +kernel⟩
theorem ok_need_comes_about {f : Addr} {fd : FuncData} (F : Fun K "need_comes_about" "need_comes_about" s_need_comes_about f fd) (T : Txt mg) (C_NoTable : ∃ C,mg "NoTable" = some (.ref C) /\ PySem.W.excIn K C bmVE "ValueError.__new__" = true) (D_does_come_about : DefS P w K mg base 6 "does_come_about" 1 F_does_come_about) : FnOk P w K mg base (CXD P w) 7 f fd ["thing"] (spF mg 1 F_need_comes_about):=by
  refine fun_ok2 (k:=6) (m:=m_need_comes_about) F sc_need_comes_about rfl rfl rfl fun cdv A outer s H E hr=>?_
  exact (sb_one (ss_if (st_not (st_val (se_call D_does_come_about (hr.mono (by decide)) pass_onD rfl (sa_cons (se_var 0) sa_nil)))) (sb_one (ss_raise rfl raiseDok rfl C_NoTable.choose_spec.1 C_NoTable.choose_spec.2 se_str)) sb_nil))
def e_open_places_1 : ME:=(mTup (mCons (mVar 1) (mCons (mVar 0) mNil)))
def t_open_places_1 : MT:=(tAndM (toB (mOp oNe (mVar 0) (mVar 1))) (toB (mOp (oI fun a b=>.bl (decide (b < a))) (mOp oIx (mVar 2) (mVar 0)) (mC (.int 0)))))
def b_open_places_1 : MS:=(mIfS (toB (mCallF 2 F_made_some (mCons (mVar 0) (mCons (mVar 2) mNil)))) (mExpr (mBM mtExtend (mVar 1) (mCons (mVal (mCompN [none,some 2,some 3] (gaName 0) (mRange1 (mCons (mCall cLen (mCons (mVar 3) mNil)) mNil)) t_open_places_1 e_open_places_1)) mNil))) mNext)
def m_open_places : MS := (mSeqS (mSet 1 (mTrk (mLstN mNil)))
    (mSeqS (mFor (gaTup (gaCons (gaName 2) (gaCons (gaName 3) gaNil))) (mEnum (mCons (mVar 0) mNil)) b_open_places_1)
    (mRet (mVar 1))))
def F_open_places : FN:=callF m_open_places 4
theorem sc_open_places : FnScope ["rest", "places", "house", "row"] ["rest"] (defScope s_open_places):=⟨rfl,rfl,rfl,by decide +kernel,rfl,by decide +kernel,by decide +kernel⟩
theorem ok_open_places {f : Addr} {fd : FuncData} (F : Fun K "open_places" "open_places" s_open_places f fd) (T : Txt mg)  (D_made_some : DefS P w K mg base 1 "made_some" 2 F_made_some) : FnOk P w K mg base (CXD P w) 2 f fd ["rest"] (spF mg 1 F_open_places):=by
  refine fun_ok2 (k:=1) (m:=m_open_places) F sc_open_places rfl rfl rfl fun cdv A outer s H E hr=>?_
  exact (sb_cons (ss_set 1 sc_open_places.nd (se_trk (sn_lst sa_nil)))
    (sb_cons (ss_for PassesOwn.leaving rfl (si_enum rfl T.b_enumerate (sa_cons (se_var 0) sa_nil)) (sg_tup rfl (sgs_cons (sg_name (i:=2) sc_open_places.nd) (sgs_cons (sg_name (i:=3) sc_open_places.nd) sgs_nil))) (sb_one (ss_if (st_val (se_call D_made_some (hr.mono (by decide)) pass_onD rfl (sa_cons (se_var 0) (sa_cons (se_var 2) sa_nil)))) (sb_one (ss_expr (se_extend (se_var 1) (sa_cons (se_val (sn_comp [none,some 2,some 3] ["place", "house", "row"] rfl (si_range1 rfl T.b_range (sa_cons (se_callB cs_len rfl T.b_len PySem.boot_len (sa_cons (se_var 3) sa_nil)) sa_nil)) (fun _ _ _ _ _=>(sg_name (i:=0) (show (["place", "house", "row"] : List Str).Nodup by decide +kernel))) (fun _ _ _ _ _=>(se_tup (sa_cons (se_var 1) (sa_cons (se_var 0) sa_nil)))) (fun _ _ _ _ _=>(sts_one (SimW.t (sw_and (st_cmp (os_ne hr.units) (se_var 0) (se_var 1)) (sw_and1 (st_cmp os_gt (se_ix (se_var 2) (se_var 0)) se_int)))))) free_name)) sa_nil)))) sb_nil)))
    (sb_one (ss_ret (se_var 1)))))
def m_rest_behind : MS := (mSeqS (mSet 3 (mCallF 4 F_raised (mCons (mCallF 4 F_raised (mCons (mVar 0) (mCons (mVar 1) (mCons (mVar 1) (mCons (mNeg (mC (.int 1))) mNil))))) (mCons (mVar 1) (mCons (mVar 2) (mCons (mNeg (mC (.int 1))) mNil))))))
    (mSeqS (mIfS (toB (mOp oEq (mVar 2) (mCall cLen (mCons (mVar 0) mNil)))) (mRet (mVar 3)) mNext)
    (mRet (mCallF 4 F_raised (mCons (mVar 3) (mCons (mVar 2) (mCons (mVar 2) (mCons (mC (.int 1)) mNil))))))))
def F_rest_behind : FN:=callF m_rest_behind 4
theorem sc_rest_behind : FnScope ["rest", "house", "place", "behind"] ["rest", "house", "place"] (defScope s_rest_behind):=⟨rfl,rfl,rfl,by decide +kernel,rfl,by decide +kernel,by decide +kernel⟩
theorem ok_rest_behind {f : Addr} {fd : FuncData} (F : Fun K "rest_behind" "rest_behind" s_rest_behind f fd) (T : Txt mg)  (D_raised : DefS P w K mg base 1 "raised" 4 F_raised) : FnOk P w K mg base (CXD P w) 2 f fd ["rest", "house", "place"] (spF mg 3 F_rest_behind):=by
  refine fun_ok2 (k:=1) (m:=m_rest_behind) F sc_rest_behind rfl rfl rfl fun cdv A outer s H E hr=>?_
  exact (sb_cons (ss_set 3 sc_rest_behind.nd (se_call D_raised (hr.mono (by decide)) pass_onD rfl (sa_cons (se_call D_raised (hr.mono (by decide)) pass_onD rfl (sa_cons (se_var 0) (sa_cons (se_var 1) (sa_cons (se_var 1) (sa_cons (se_neg se_int) sa_nil))))) (sa_cons (se_var 1) (sa_cons (se_var 2) (sa_cons (se_neg se_int) sa_nil))))))
    (sb_cons (ss_if (st_cmp (os_eq hr.units) (se_var 2) (se_callB cs_len rfl T.b_len PySem.boot_len (sa_cons (se_var 0) sa_nil))) (sb_one (ss_ret (se_var 3))) sb_nil)
    (sb_one (ss_ret (se_call D_raised (hr.mono (by decide)) pass_onD rfl (sa_cons (se_var 3) (sa_cons (se_var 2) (sa_cons (se_var 2) (sa_cons se_int sa_nil)))))))))
def b_next_place_1 : MS:=(mIfS (toB (mOp oEq (mCall cLen (mCons (mCallF 1 F_rootless_houses (mCons (mCallF 3 F_rest_behind (mCons (mVar 0) (mCons (mVar 1) (mCons (mVar 2) mNil)))) mNil)) mNil)) (mC (.int 0)))) (mRet (mTup (mCons (mVar 1) (mCons (mVar 2) mNil)))) mNext)
def m_next_place : MS := (mSeqS (mFor (gaTup (gaCons (gaName 1) (gaCons (gaName 2) gaNil))) (mSeq (mCallF 1 F_open_places (mCons (mVar 0) mNil))) b_next_place_1)
    (mRet (mC .non)))
def F_next_place : FN:=callF m_next_place 3
theorem sc_next_place : FnScope ["rest", "house", "place"] ["rest"] (defScope s_next_place):=⟨rfl,rfl,rfl,by decide +kernel,rfl,by decide +kernel,by decide +kernel⟩
theorem ok_next_place {f : Addr} {fd : FuncData} (F : Fun K "next_place" "next_place" s_next_place f fd) (T : Txt mg)  (D_open_places : DefS P w K mg base 2 "open_places" 1 F_open_places) (D_rootless_houses : DefS P w K mg base 4 "rootless_houses" 1 F_rootless_houses) (D_rest_behind : DefS P w K mg base 2 "rest_behind" 3 F_rest_behind) : FnOk P w K mg base (CXD P w) 5 f fd ["rest"] (spF mg 1 F_next_place):=by
  refine fun_ok2 (k:=4) (m:=m_next_place) F sc_next_place rfl rfl rfl fun cdv A outer s H E hr=>?_
  exact (sb_cons (ss_for PassesOwn.leaving rfl (si_seq (se_call D_open_places (hr.mono (by decide)) pass_onD rfl (sa_cons (se_var 0) sa_nil))) (sg_tup rfl (sgs_cons (sg_name (i:=1) sc_next_place.nd) (sgs_cons (sg_name (i:=2) sc_next_place.nd) sgs_nil))) (sb_one (ss_if (st_cmp (os_eq hr.units) (se_callB cs_len rfl T.b_len PySem.boot_len (sa_cons (se_call D_rootless_houses (hr.mono (by decide)) pass_onD rfl (sa_cons (se_call D_rest_behind (hr.mono (by decide)) pass_onD rfl (sa_cons (se_var 0) (sa_cons (se_var 1) (sa_cons (se_var 2) sa_nil)))) sa_nil)) sa_nil)) se_int) (sb_one (ss_ret (se_tup (sa_cons (se_var 1) (sa_cons (se_var 2) sa_nil))))) sb_nil)))
    (sb_one (ss_ret se_non)))
def m_step_at : MS := (mSeqS (mIfS (toB (mOp oEq (mVar 2) (mCall cLen (mCons (mVar 0) mNil)))) (mRet (mTup (mCons (mC (.str "use")) (mCons (mVar 1) (mCons (mC (.int 1)) mNil))))) mNext)
    (mRet (mTup (mCons (mC (.str "lend")) (mCons (mVar 1) (mCons (mVar 2) (mCons (mC (.int 1)) mNil)))))))
def F_step_at : FN:=callF m_step_at 3
theorem sc_step_at : FnScope ["rest", "house", "place"] ["rest", "house", "place"] (defScope s_step_at):=⟨rfl,rfl,rfl,by decide +kernel,rfl,by decide +kernel,by decide +kernel⟩
theorem ok_step_at {f : Addr} {fd : FuncData} (F : Fun K "step_at" "step_at" s_step_at f fd) (T : Txt mg)   : FnOk P w K mg base (CXD P w) 1 f fd ["rest", "house", "place"] (spF mg 3 F_step_at):=by
  refine fun_ok2 (k:=0) (m:=m_step_at) F sc_step_at rfl rfl rfl fun cdv A outer s H E hr=>?_
  exact (sb_cons (ss_if (st_cmp (os_eq hr.units) (se_var 2) (se_callB cs_len rfl T.b_len PySem.boot_len (sa_cons (se_var 0) sa_nil))) (sb_one (ss_ret (se_tup (sa_cons se_str (sa_cons (se_var 1) (sa_cons se_int sa_nil)))))) sb_nil)
    (sb_one (ss_ret (se_tup (sa_cons se_str (sa_cons (se_var 1) (sa_cons (se_var 2) (sa_cons se_int sa_nil))))))))
def e_steps_1 : ME:=(mCall (cInts fun ns=>some (.int ns.sum)) (mCons (mVar 0) mNil))
def b_steps_1 : MS:=(mExpr (mBM mtExtend (mVar 1) (mCons (mOp oMul (mLst (mCons (mTup (mCons (mC (.str "make")) (mCons (mVar 2) (mCons (mC (.int 1)) mNil)))) mNil)) (mOp oIx (mVar 3) (mVar 2))) mNil)))
def b_steps_2 : MS := (mSeqS (mExpr (mBM mtAppend (mVar 1) (mCons (mCallF 3 F_step_at (mCons (mVar 4) (mCons (mOp oIx (mVar 5) (mC (.int 0))) (mCons (mOp oIx (mVar 5) (mC (.int 1))) mNil)))) mNil)))
    (mSeqS (mSet 4 (mCallF 3 F_rest_behind (mCons (mVar 4) (mCons (mOp oIx (mVar 5) (mC (.int 0))) (mCons (mOp oIx (mVar 5) (mC (.int 1))) mNil)))))
    (mSet 5 (mCallF 1 F_next_place (mCons (mVar 4) mNil)))))
def w_steps_2 : MT:=(toB (mOp oIsNot (mVar 5) (mC .non)))
def m_steps : MS := (mSeqS (mExpr (mCallF 1 F_need_comes_about (mCons (mVar 0) mNil)))
    (mSeqS (mIfS (toB (mOp (oI fun a b=>.bl (decide (b < a))) (mCall (cInts fun ns=>some (.int ns.sum)) (mCons (mVal (mCompN [none] (gaName 0) (mSeq (mVar 0)) mTrue e_steps_1)) mNil)) (mC (.int 300)))) (mRaise "TooMany" (mC (.str "more steps than are told"))) mNext)
    (mSeqS (mSet 1 (mTrk (mLstN mNil)))
    (mSeqS (mFor (gaTup (gaCons (gaName 2) (gaCons (gaName 3) gaNil))) (mEnum (mCons (mVar 0) mNil)) b_steps_1)
    (mSeqS (mSet 4 (mVar 0))
    (mSeqS (mSet 5 (mCallF 1 F_next_place (mCons (mVar 4) mNil)))
    (mSeqS (whileG w_steps_2 b_steps_2 100000)
    (mRet (mVar 1)))))))))
def F_steps : FN:=callK m_steps 6
theorem sc_steps : FnScope ["table", "told", "house", "row", "rest", "at"] ["table"] (defScope s_steps):=⟨rfl,rfl,rfl,by decide +kernel,rfl,by decide +kernel,by decide +kernel⟩
theorem ok_steps {f : Addr} {fd : FuncData} (F : Fun K "steps" "steps" s_steps f fd) (T : Txt mg) (C_TooMany : ∃ C,mg "TooMany" = some (.ref C) /\ PySem.W.excIn K C bmVE "ValueError.__new__" = true) (D_need_comes_about : DefS P w K mg base 7 "need_comes_about" 1 F_need_comes_about) (D_next_place : DefS P w K mg base 5 "next_place" 1 F_next_place) (D_step_at : DefS P w K mg base 1 "step_at" 3 F_step_at) (D_rest_behind : DefS P w K mg base 2 "rest_behind" 3 F_rest_behind) : FnOk P w K mg base (CXD P w) 8 f fd ["table"] (spF mg 1 F_steps):=by
  refine fun_ok2K (k:=7) (m:=m_steps) F sc_steps rfl rfl rfl fun cdv A outer s H E hr=>?_
  exact (sb_cons (ss_expr (se_call D_need_comes_about (hr.mono (by decide)) pass_onD rfl (sa_cons (se_var 0) sa_nil)))
    (sb_cons (ss_if (st_cmp os_gt (se_callB (cs_sum rfl) rfl T.b_sum boot_sum (sa_cons (se_val (sn_comp [none] ["row"] rfl (si_seq (se_var 0)) (fun _ _ _ _ _=>(sg_name (i:=0) (show (["row"] : List Str).Nodup by decide +kernel))) (fun _ _ _ _ _=>(se_callB (cs_sum rfl) rfl T.b_sum boot_sum (sa_cons (se_var 0) sa_nil))) (fun _ _ _ _ _=>sts_nil) free_name)) sa_nil)) (se_gint rfl T.c_MOST_STEPS.choose_spec)) (sb_one (ss_raise rfl raiseDok rfl C_TooMany.choose_spec.1 C_TooMany.choose_spec.2 se_str)) sb_nil)
    (sb_cons (ss_set 1 sc_steps.nd (se_trk (sn_lst sa_nil)))
    (sb_cons (ss_for PassesOwn.leaving rfl (si_enum rfl T.b_enumerate (sa_cons (se_var 0) sa_nil)) (sg_tup rfl (sgs_cons (sg_name (i:=2) sc_steps.nd) (sgs_cons (sg_name (i:=3) sc_steps.nd) sgs_nil))) (sb_one (ss_expr (se_extend (se_var 1) (sa_cons (se_op os_mul (se_lst (sa_cons (se_tup (sa_cons se_str (sa_cons (se_var 2) (sa_cons se_int sa_nil)))) sa_nil)) (se_ix (se_var 3) (se_var 2))) sa_nil)))))
    (sb_cons (ss_set 4 sc_steps.nd (se_var 0))
    (sb_cons (ss_set 5 sc_steps.nd (se_call D_next_place (hr.mono (by decide)) pass_onD rfl (sa_cons (se_var 4) sa_nil)))
    (sb_cons (ss_while 100000 PassesOwn.leaving (st_cmp os_isnot (se_var 5) se_non) (sb_cons (ss_expr (se_append (se_var 1) (sa_cons (se_call D_step_at (hr.mono (by decide)) pass_onD rfl (sa_cons (se_var 4) (sa_cons (se_ix (se_var 5) se_int) (sa_cons (se_ix (se_var 5) se_int) sa_nil)))) sa_nil)))
    (sb_cons (ss_set 4 sc_steps.nd (se_call D_rest_behind (hr.mono (by decide)) pass_onD rfl (sa_cons (se_var 4) (sa_cons (se_ix (se_var 5) se_int) (sa_cons (se_ix (se_var 5) se_int) sa_nil)))))
    (sb_one (ss_set 5 sc_steps.nd (se_call D_next_place (hr.mono (by decide)) pass_onD rfl (sa_cons (se_var 4) sa_nil)))))))
    (sb_one (ss_ret (se_var 1))))))))))
def b__law_b_draw_1 : MS:=(mSet 2 (mOp oMod (mOp oAdd (mOp oAdd (mOp oMul (mVar 2) (mC (.int 69621))) (mOp oMod (mVar 3) (mC (.int 998244353)))) (mC (.int 1))) (mC (.int 1000000007))))
def m__law_b_draw : MS := (mSeqS (mIfS (toB (mOp oLt (mVar 1) (mCall cLen (mCons (mVar 0) mNil)))) (mRet (mOp oMod (mOp oIx (mVar 0) (mVar 1)) (mOp oPow (mC (.int 10)) (mC (.int 40))))) mNext)
    (mSeqS (mSet 2 (mOp oMul (mC (.int 1000003)) (mOp oAdd (mVar 1) (mC (.int 1)))))
    (mSeqS (mFor (gaName 3) (mSeq (mSl (mVar 0) mNoPart (mPart (mC (.int 7))))) b__law_b_draw_1)
    (mSeqS (mSet 2 (mOp oMod (mOp oMul (mVar 2) (mVar 2)) (mC (.int 1000000007))))
    (mSeqS (mSet 2 (mOp oMod (mOp oMul (mOp oAdd (mVar 2) (mOp oMul (mOp oMul (mC (.int 7919)) (mVar 1)) (mVar 1))) (mC (.int 48271))) (mC (.int 2147483647))))
    (mRet (mOp oDiv (mOp oMod (mOp oMul (mVar 2) (mVar 2)) (mC (.int 2147483647))) (mC (.int 8)))))))))
def F__law_b_draw : FN:=callF m__law_b_draw 4
theorem sc__law_b_draw : FnScope ["script", "k", "mixed", "cell"] ["script", "k"] (defScope s__law_b_draw):=⟨rfl,rfl,rfl,by decide +kernel,rfl,by decide +kernel,by decide +kernel⟩
theorem ok__law_b_draw {f : Addr} {fd : FuncData} (F : Fun K "_law_b_draw" "_law_b_draw" s__law_b_draw f fd) (T : Txt mg)   : FnOk P w K mg base (CXD P w) 1 f fd ["script", "k"] (spF mg 2 F__law_b_draw):=by
  refine fun_ok2 (k:=0) (m:=m__law_b_draw) F sc__law_b_draw rfl rfl rfl fun cdv A outer s H E hr=>?_
  exact (sb_cons (ss_if (st_cmp (os_lt hr.units) (se_var 1) (se_callB cs_len rfl T.b_len PySem.boot_len (sa_cons (se_var 0) sa_nil))) (sb_one (ss_ret (se_op os_mod (se_ix (se_var 0) (se_var 1)) (se_op os_pow se_int se_int)))) sb_nil)
    (sb_cons (ss_set 2 sc__law_b_draw.nd (se_op os_mul se_int (se_op os_add (se_var 1) se_int)))
    (sb_cons (ss_for PassesOwn.leaving rfl (si_seq (se_slice (se_var 0) so_none (so_some se_int))) (sg_name (i:=3) sc__law_b_draw.nd) (sb_one (ss_set 2 sc__law_b_draw.nd (se_op os_mod (se_op os_add (se_op os_add (se_op os_mul (se_var 2) se_int) (se_op os_mod (se_var 3) se_int)) se_int) se_int))))
    (sb_cons (ss_set 2 sc__law_b_draw.nd (se_op os_mod (se_op os_mul (se_var 2) (se_var 2)) se_int))
    (sb_cons (ss_set 2 sc__law_b_draw.nd (se_op os_mod (se_op os_mul (se_op os_add (se_var 2) (se_op os_mul (se_op os_mul se_int (se_var 1)) (se_var 1))) se_int) se_int))
    (sb_one (ss_ret (se_op os_div (se_op os_mod (se_op os_mul (se_var 2) (se_var 2)) se_int) se_int))))))))
def m__law_b_whole : MS:=(mRet (mAnd (mIsI "int" (mVar 0)) (mNot (mIsI "bool" (mVar 0)))))
def F__law_b_whole : FN:=callF m__law_b_whole 1
theorem sc__law_b_whole : FnScope ["thing"] ["thing"] (defScope s__law_b_whole):=⟨rfl,rfl,rfl,by decide +kernel,rfl,by decide +kernel,by decide +kernel⟩
theorem ok__law_b_whole {f : Addr} {fd : FuncData} (F : Fun K "_law_b_whole" "_law_b_whole" s__law_b_whole f fd) (T : Txt mg)   : FnOk P w K mg base (CXD P w) 1 f fd ["thing"] (spF mg 1 F__law_b_whole):=by
  refine fun_ok2 (k:=0) (m:=m__law_b_whole) F sc__law_b_whole rfl rfl rfl fun cdv A outer s H E hr=>?_
  exact (sb_one (ss_ret (se_and (se_isi (T := "int") (by decide) (se_var 0) rfl T.b_isinstance rfl T.b_int boot_int) (se_one (se_not (se_isi (T := "bool") (by decide) (se_var 0) rfl T.b_isinstance rfl T.b_bool boot_bool))))))
def b__law_b_rights_1 : MS := (mSeqS (mSet 3 (mOp oAdd (mVar 3) (mOp oIx (mOp oIx (mVar 0) (mVar 4)) (mVar 1))))
    (mIfS (toB (mOp oNe (mVar 4) (mVar 1))) (mSet 3 (mOp (oI fun a b=>.int (a - b)) (mVar 3) (mOp oIx (mOp oIx (mVar 0) (mVar 1)) (mVar 4)))) mNext))
def m__law_b_rights : MS := (mSeqS (mSet 2 (mCall cLen (mCons (mVar 0) mNil)))
    (mSeqS (mSet 3 (mC (.int 0)))
    (mSeqS (mFor (gaName 4) (mRange1 (mCons (mVar 2) mNil)) b__law_b_rights_1)
    (mRet (mOp (oI fun a b=>.int (a - b)) (mVar 3) (mOp oIx (mOp oIx (mVar 0) (mVar 1)) (mVar 2)))))))
def F__law_b_rights : FN:=callF m__law_b_rights 5
theorem sc__law_b_rights : FnScope ["table", "house", "n", "total", "other"] ["table", "house"] (defScope s__law_b_rights):=⟨rfl,rfl,rfl,by decide +kernel,rfl,by decide +kernel,by decide +kernel⟩
theorem ok__law_b_rights {f : Addr} {fd : FuncData} (F : Fun K "_law_b_rights" "_law_b_rights" s__law_b_rights f fd) (T : Txt mg)   : FnOk P w K mg base (CXD P w) 1 f fd ["table", "house"] (spF mg 2 F__law_b_rights):=by
  refine fun_ok2 (k:=0) (m:=m__law_b_rights) F sc__law_b_rights rfl rfl rfl fun cdv A outer s H E hr=>?_
  exact (sb_cons (ss_set 2 sc__law_b_rights.nd (se_callB cs_len rfl T.b_len PySem.boot_len (sa_cons (se_var 0) sa_nil)))
    (sb_cons (ss_set 3 sc__law_b_rights.nd se_int)
    (sb_cons (ss_for PassesOwn.leaving rfl (si_range1 rfl T.b_range (sa_cons (se_var 2) sa_nil)) (sg_name (i:=4) sc__law_b_rights.nd) (sb_cons (ss_set 3 sc__law_b_rights.nd (se_op os_add (se_var 3) (se_ix (se_ix (se_var 0) (se_var 4)) (se_var 1))))
    (sb_one (ss_if (st_cmp (os_ne hr.units) (se_var 4) (se_var 1)) (sb_one (ss_set 3 sc__law_b_rights.nd (se_op os_sub (se_var 3) (se_ix (se_ix (se_var 0) (se_var 1)) (se_var 4))))) sb_nil))))
    (sb_one (ss_ret (se_op os_sub (se_var 3) (se_ix (se_ix (se_var 0) (se_var 1)) (se_var 2))))))))
def e__law_b_busy_1 : ME:=(mOp (oI fun a b=>.bl (decide (b < a))) (mOp oIx (mOp oIx (mVar 1) (mVar 2)) (mVar 0)) (mC (.int 0)))
def t__law_b_busy_1 : MT:=(toB (mOp oNe (mVar 0) (mVar 2)))
def m__law_b_busy : MS := (mSeqS (mSet 2 (mCall cLen (mCons (mVar 0) mNil)))
    (mRet (mCall (cBls fun ns=>.bl (ns.any id)) (mCons (mVal (mCompN [none,some 0,some 1] (gaName 0) (mRange1 (mCons (mOp oAdd (mVar 2) (mC (.int 1))) mNil)) t__law_b_busy_1 e__law_b_busy_1)) mNil))))
def F__law_b_busy : FN:=callF m__law_b_busy 3
theorem sc__law_b_busy : FnScope ["table", "house", "n"] ["table", "house"] (defScope s__law_b_busy):=⟨rfl,rfl,rfl,by decide +kernel,rfl,by decide +kernel,by decide +kernel⟩
theorem ok__law_b_busy {f : Addr} {fd : FuncData} (F : Fun K "_law_b_busy" "_law_b_busy" s__law_b_busy f fd) (T : Txt mg)   : FnOk P w K mg base (CXD P w) 1 f fd ["table", "house"] (spF mg 2 F__law_b_busy):=by
  refine fun_ok2 (k:=0) (m:=m__law_b_busy) F sc__law_b_busy rfl rfl rfl fun cdv A outer s H E hr=>?_
  exact (sb_cons (ss_set 2 sc__law_b_busy.nd (se_callB cs_len rfl T.b_len PySem.boot_len (sa_cons (se_var 0) sa_nil)))
    (sb_one (ss_ret (se_callB (cs_any rfl) rfl T.b_any boot_any (sa_cons (se_val (sn_comp [none,some 0,some 1] ["j", "table", "house"] rfl (si_range1 rfl T.b_range (sa_cons (se_op os_add (se_var 2) se_int) sa_nil)) (fun _ _ _ _ _=>(sg_name (i:=0) (show (["j", "table", "house"] : List Str).Nodup by decide +kernel))) (fun _ _ _ _ _=>(se_cmp os_gt (se_ix (se_ix (se_var 1) (se_var 2)) (se_var 0)) se_int)) (fun _ _ _ _ _=>(sts_one (st_cmp (os_ne hr.units) (se_var 0) (se_var 2)))) free_name)) sa_nil)))))
def e__law_b_known_1 : ME:=(mOp (oI fun a b=>.bl (decide (b < a))) (mOp oIx (mOp oIx (mVar 1) (mVar 0)) (mVar 0)) (mC (.int 0)))
def b__law_b_known_3 : MS:=(mIfS (tAndM (toB (mOp oIx (mVar 2) (mVar 4))) (tAndM (toB (mOp oNe (mVar 4) (mVar 5))) (toB (mOp (oI fun a b=>.bl (decide (b < a))) (mOp oIx (mOp oIx (mVar 0) (mVar 4)) (mVar 5)) (mC (.int 0)))))) (mSetIx (mVar 2) (mVar 5) (mC (.bl true))) mNext)
def b__law_b_known_2 : MS:=(mFor (gaName 5) (mRange1 (mCons (mVar 1) mNil)) b__law_b_known_3)
def b__law_b_known_1 : MS:=(mFor (gaName 4) (mRange1 (mCons (mVar 1) mNil)) b__law_b_known_2)
def m__law_b_known : MS := (mSeqS (mSet 1 (mCall cLen (mCons (mVar 0) mNil)))
    (mSeqS (mSet 2 (mTrk (mCompN [none,some 0] (gaName 0) (mRange1 (mCons (mVar 1) mNil)) mTrue e__law_b_known_1)))
    (mSeqS (mFor (gaName 3) (mRange1 (mCons (mVar 1) mNil)) b__law_b_known_1)
    (mRet (mVar 2)))))
def F__law_b_known : FN:=callF m__law_b_known 6
theorem sc__law_b_known : FnScope ["table", "n", "known", "turn", "i", "j"] ["table"] (defScope s__law_b_known):=⟨rfl,rfl,rfl,by decide +kernel,rfl,by decide +kernel,by decide +kernel⟩
theorem ok__law_b_known {f : Addr} {fd : FuncData} (F : Fun K "_law_b_known" "_law_b_known" s__law_b_known f fd) (T : Txt mg)   : FnOk P w K mg base (CXD P w) 1 f fd ["table"] (spF mg 1 F__law_b_known):=by
  refine fun_ok2 (k:=0) (m:=m__law_b_known) F sc__law_b_known rfl rfl rfl fun cdv A outer s H E hr=>?_
  exact (sb_cons (ss_set 1 sc__law_b_known.nd (se_callB cs_len rfl T.b_len PySem.boot_len (sa_cons (se_var 0) sa_nil)))
    (sb_cons (by first | exact ss_compT [none,some 0] ["house", "table"] 2 sc__law_b_known.nd rfl (si_range1 rfl T.b_range (sa_cons (se_var 1) sa_nil)) (fun _ _ _ _ _=>(sg_name (i:=0) (show (["house", "table"] : List Str).Nodup by decide +kernel))) (fun _ _ _ _ _=>(se_cmp os_gt (se_ix (se_ix (se_var 1) (se_var 0)) (se_var 0)) se_int)) (fun _ _ _ _ _=>sts_nil) free_name | exact ss_set 2 sc__law_b_known.nd (se_trk (sn_comp [none,some 0] ["house", "table"] rfl (si_range1 rfl T.b_range (sa_cons (se_var 1) sa_nil)) (fun _ _ _ _ _=>(sg_name (i:=0) (show (["house", "table"] : List Str).Nodup by decide +kernel))) (fun _ _ _ _ _=>(se_cmp os_gt (se_ix (se_ix (se_var 1) (se_var 0)) (se_var 0)) se_int)) (fun _ _ _ _ _=>sts_nil) free_name)))
    (sb_cons (ss_for PassesOwn.leaving rfl (si_range1 rfl T.b_range (sa_cons (se_var 1) sa_nil)) (sg_name (i:=3) sc__law_b_known.nd) (sb_one (ss_for PassesOwn.leaving rfl (si_range1 rfl T.b_range (sa_cons (se_var 1) sa_nil)) (sg_name (i:=4) sc__law_b_known.nd) (sb_one (ss_for PassesOwn.leaving rfl (si_range1 rfl T.b_range (sa_cons (se_var 1) sa_nil)) (sg_name (i:=5) sc__law_b_known.nd) (sb_one (ss_if (SimW.t (sw_and (st_val (se_ix (se_var 2) (se_var 4))) (sw_and (st_cmp (os_ne hr.units) (se_var 4) (se_var 5)) (sw_and1 (st_cmp os_gt (se_ix (se_ix (se_var 0) (se_var 4)) (se_var 5)) se_int))))) (sb_one (ss_sub se_bl (se_var 2) (se_var 5))) sb_nil)))))))
    (sb_one (ss_ret (se_var 2))))))
def e__law_b_grown_1 : ME:=(mTrk (mRepN (mLst (mCons (mC (.int 0)) mNil)) (mOp oAdd (mVar 1) (mC (.int 1)))))
def b__law_b_grown_1 : MS := (mSeqS (mSet 7 (mCallF 2 F__law_b_draw (mCons (mVar 0) (mCons (mOp oAdd (mVar 2) (mVar 6)) mNil))))
    (mSeqS (mSet 8 (mOp oMod (mVar 7) (mC (.int 5))))
    (mSeqS (mSet 9 (mOp oMod (mOp oDiv (mVar 7) (mC (.int 5))) (mVar 1)))
    (mSeqS (mSet 10 (mCallF 2 F__law_b_rights (mCons (mVar 5) (mCons (mVar 9) mNil))))
    (mSeqS (mSet 11 (mOp oAdd (mC (.int 1)) (mOp oMod (mOp oDiv (mVar 7) (mC (.int 40))) (mVar 4))))
    (mIfS (tOrM (toB (mOp oLt (mVar 8) (mC (.int 2)))) (toB (mOp oLt (mVar 10) (mC (.int 1))))) (mSetIx (mOp oIx (mVar 5) (mVar 9)) (mVar 9) (mOp oAdd (mOp oIx (mOp oIx (mVar 5) (mVar 9)) (mVar 9)) (mVar 11))) (mSeqS (mSet 12 (mVar 1))
    (mSeqS (mIfS (toB (mOp oLt (mVar 8) (mC (.int 4)))) (mSet 12 (mOp oMod (mOp oDiv (mVar 7) (mC (.int 40))) (mVar 1))) mNext)
    (mSeqS (mIfS (toB (mOp oEq (mVar 12) (mVar 9))) (mSet 12 (mVar 1)) mNext)
    (mSetIx (mOp oIx (mVar 5) (mVar 9)) (mVar 12) (mOp oAdd (mOp oIx (mOp oIx (mVar 5) (mVar 9)) (mVar 12)) (mCall cMin (mCons (mVar 11) (mCons (mVar 10) mNil))))))))))))))
def m__law_b_grown : MS := (mSeqS (mSet 5 (mTrk (mCompN [none, some 1] (gaName 0) (mRange1 (mCons (mVar 1) mNil)) mTrue e__law_b_grown_1)))
    (mSeqS (mFor (gaName 6) (mRange1 (mCons (mVar 3) mNil)) b__law_b_grown_1)
    (mRet (mVar 5))))
def F__law_b_grown : FN:=callK m__law_b_grown 13
theorem sc__law_b_grown : FnScope ["script", "n", "at", "many", "most", "table", "k", "draw", "word", "i", "has", "step", "j"] ["script", "n", "at", "many", "most"] (defScope s__law_b_grown):=⟨rfl,rfl,rfl,by decide +kernel,rfl,by decide +kernel,by decide +kernel⟩
theorem ok__law_b_grown {f : Addr} {fd : FuncData} (F : Fun K "_law_b_grown" "_law_b_grown" s__law_b_grown f fd) (T : Txt mg)  (D__law_b_draw : DefS P w K mg base 1 "_law_b_draw" 2 F__law_b_draw) (D__law_b_rights : DefS P w K mg base 1 "_law_b_rights" 2 F__law_b_rights) : FnOk P w K mg base (CXD P w) 2 f fd ["script", "n", "at", "many", "most"] (spF mg 5 F__law_b_grown):=by
  refine fun_ok2K (k:=1) (m:=m__law_b_grown) F sc__law_b_grown rfl rfl rfl fun cdv A outer s H E hr=>?_
  exact (sb_cons (by first | exact ss_compT [none,some 1] ["house", "n"] 5 sc__law_b_grown.nd rfl (si_range1 rfl T.b_range (sa_cons (se_var 1) sa_nil)) (fun _ _ _ _ _=>(sg_name (i:=0) (show (["house", "n"] : List Str).Nodup by decide +kernel))) (fun _ _ _ _ _=>(se_trk (sn_rep (se_lst (sa_cons se_int sa_nil)) (se_op os_add (se_var 1) se_int)))) (fun _ _ _ _ _=>sts_nil) free_name | exact ss_set 5 sc__law_b_grown.nd (se_trk (sn_comp [none,some 1] ["house", "n"] rfl (si_range1 rfl T.b_range (sa_cons (se_var 1) sa_nil)) (fun _ _ _ _ _=>(sg_name (i:=0) (show (["house", "n"] : List Str).Nodup by decide +kernel))) (fun _ _ _ _ _=>(se_trk (sn_rep (se_lst (sa_cons se_int sa_nil)) (se_op os_add (se_var 1) se_int)))) (fun _ _ _ _ _=>sts_nil) free_name)))
    (sb_cons (ss_for PassesOwn.leaving rfl (si_range1 rfl T.b_range (sa_cons (se_var 3) sa_nil)) (sg_name (i:=6) sc__law_b_grown.nd) (sb_cons (ss_set 7 sc__law_b_grown.nd (se_call D__law_b_draw (hr.mono (by decide)) pass_onD rfl (sa_cons (se_var 0) (sa_cons (se_op os_add (se_var 2) (se_var 6)) sa_nil))))
    (sb_cons (ss_set 8 sc__law_b_grown.nd (se_op os_mod (se_var 7) se_int))
    (sb_cons (ss_set 9 sc__law_b_grown.nd (se_op os_mod (se_op os_div (se_var 7) se_int) (se_var 1)))
    (sb_cons (ss_set 10 sc__law_b_grown.nd (se_call D__law_b_rights (hr.mono (by decide)) pass_onD rfl (sa_cons (se_var 5) (sa_cons (se_var 9) sa_nil))))
    (sb_cons (ss_set 11 sc__law_b_grown.nd (se_op os_add se_int (se_op os_mod (se_op os_div (se_var 7) se_int) (se_var 4))))
    (sb_one (ss_if (SimW.t (sw_or (st_cmp (os_lt hr.units) (se_var 8) se_int) (sw_or1 (st_cmp (os_lt hr.units) (se_var 10) se_int)))) (sb_one (ss_sub (se_op os_add (se_ix (se_ix (se_var 5) (se_var 9)) (se_var 9)) (se_var 11)) (se_ix (se_var 5) (se_var 9)) (se_var 9))) (sb_cons (ss_set 12 sc__law_b_grown.nd (se_var 1))
    (sb_cons (ss_if (st_cmp (os_lt hr.units) (se_var 8) se_int) (sb_one (ss_set 12 sc__law_b_grown.nd (se_op os_mod (se_op os_div (se_var 7) se_int) (se_var 1)))) sb_nil)
    (sb_cons (ss_if (st_cmp (os_eq hr.units) (se_var 12) (se_var 9)) (sb_one (ss_set 12 sc__law_b_grown.nd (se_var 1))) sb_nil)
    (sb_one (ss_sub (se_op os_add (se_ix (se_ix (se_var 5) (se_var 9)) (se_var 12)) (se_callB (cs_min rfl) rfl T.b_min boot_min (sa_cons (se_var 11) (sa_cons (se_var 10) sa_nil)))) (se_ix (se_var 5) (se_var 9)) (se_var 12))))))))))))))
    (sb_one (ss_ret (se_var 5)))))
structure Nms (mg : Str -> Option Value) (c : Nat -> Addr) : Prop where
  m0 : mg "WharfError" = some (.ref (c 0))
  m1 : mg "NoTable" = some (.ref (c 1))
  m2 : mg "NoHouse" = some (.ref (c 2))
  m3 : mg "NoDeed" = some (.ref (c 3))
  m4 : mg "NoLetter" = some (.ref (c 4))
  m5 : mg "NoStand" = some (.ref (c 5))
  m6 : mg "NoRoad" = some (.ref (c 6))
  m7 : mg "NoPlan" = some (.ref (c 7))
  m8 : mg "NoBook" = some (.ref (c 8))
  m9 : mg "NoManner" = some (.ref (c 9))
  m10 : mg "TooMany" = some (.ref (c 10))
  m11 : mg "NoText" = some (.ref (c 11))
  m12 : mg "NoRow" = some (.ref (c 12))
  m13 : mg "NoName" = some (.ref (c 13))
  m14 : mg "Short" = some (.ref (c 14))
  ve : mg "ValueError" = none
  an : mg "any" = none
  isi : mg "isinstance" = none
structure TgtS (K : PySem.W.Frag) (c : Nat -> Addr) (t : Nat) : Prop where
  xc : XCls K (c t)
  ve : PySem.W.kitOne K (.ref (c t)) (.type "ValueError") = some true
  ex : PySem.W.exmOne K (.ref (c t)) (.ref (c 0)) = some true
  k : ∀ i,1 <= i -> i <= 14 -> PySem.W.kitOne K (.ref (c t)) (.ref (c i)) = some (decide (i = t))
theorem boot_ValueError : bootBuiltins "ValueError" = some (.type "ValueError"):=by decide +kernel
theorem keepE {H : Hp} {e p : Addr} {v o : HO} (h : H e = some v) (hp : H p = none) : upd H p o e = some v:=by
  rw [upd_ne fun z=>by rw [z,hp] at h; cases h]; exact h
theorem sqk_of {K : PySem.W.Frag} {H : Hp} {a : Addr} {xs : List V} (h : H a = some (.lst xs)) : SqK K false H a xs:=by
  unfold SqK; rw [if_neg (by decide)]; exact .inl (.inl h)
theorem noB (bs : List Bool) (j : Nat) (h : (bs.take j).all (fun b=>!b) = true) (hl : j <= bs.length) : ∀ m,m < j -> bs[m]? = some false:=fun m hm=>by
  have hb : m < bs.length:=by omega
  have:=List.all_eq_true.mp h (bs[m]) (List.mem_take_iff_getElem.mpr ⟨m,by omega,rfl⟩)
  rw [List.getElem?_eq_getElem hb]
  cases q : bs[m] with
  | false=>rfl
  | true=>rw [q] at this; cases this
def F__law_b_told : FN:=fun ps st=>match F_steps ps st with
  | .ok v st1=>.ok v st1
  | .exc x st1=>if x.cls = "NoTable" then .ok (.str "table") st1 else if x.cls = "TooMany" then .ok (.str "many") st1 else .stuck
  | .stuck=>.stuck
theorem sc__law_b_told : FnScope ["table", "told", "e", "others", "known"] ["table"] (defScope s__law_b_told):=⟨rfl,rfl,rfl,by decide +kernel,rfl,by decide +kernel,by decide +kernel⟩
theorem ok__law_b_told {f : Addr} {fd : FuncData} {c : Nat -> Addr} (F : Fun K "_law_b_told" "_law_b_told" s__law_b_told f fd) (T : Txt mg) (Nm : Nms mg c) (T1 : TgtS K c 1) (T10 : TgtS K c 10) (D_steps : DefS P w K mg base 8 "steps" 1 F_steps) : FnOk P w K mg base (CXD P w) 9 f fd ["table"] (spF mg 1 F__law_b_told):=by
  obtain ⟨fR,fdR,psR,FR,mR,kR,bR,lR⟩:=D_steps.ex
  refine Fun.okD F sc__law_b_told (fun vs H Q E h=>h.1) fun cdv A outer s H vs Q E hr hsp=>?_
  obtain ⟨hl,ρ,st0,pvs,R,rl,hA⟩:=hsp
  refine ⟨_,pss_cons (ps_set (i:=1) sc__law_b_told.nd rfl (Or.inl rfl) (pe_str))
      (pss_cons (ps_tryADa FR hr mR kR bR (pa_cons (pv 0) pa_nil) sc__law_b_told.nd (i:=2) rfl rfl (j:=1) rfl rfl (fun e=>pss_cons (ps_set (i:=3) sc__law_b_told.nd rfl (Or.inl rfl) (pe_lst (pa_cons (pe_callB (call_isxD K) (by rfl) Nm.isi boot_isinstance (pa_cons (pv 2) (pa_cons (pe_glob (v:=.ref (c 3)) (by rfl) Nm.m3 rfl) pa_nil))) (pa_cons (pe_callB (call_isxD K) (by rfl) Nm.isi boot_isinstance (pa_cons (pv 2) (pa_cons (pe_glob (v:=.ref (c 2)) (by rfl) Nm.m2 rfl) pa_nil))) (pa_cons (pe_callB (call_isxD K) (by rfl) Nm.isi boot_isinstance (pa_cons (pv 2) (pa_cons (pe_glob (v:=.ref (c 4)) (by rfl) Nm.m4 rfl) pa_nil))) (pa_cons (pe_callB (call_isxD K) (by rfl) Nm.isi boot_isinstance (pa_cons (pv 2) (pa_cons (pe_glob (v:=.ref (c 5)) (by rfl) Nm.m5 rfl) pa_nil))) pa_nil))))))
        (pss_cons (ps_set (i:=3) sc__law_b_told.nd rfl (Or.inl rfl) (pe_op op_cat (pv 3) (pe_lst (pa_cons (pe_callB (call_isxD K) (by rfl) Nm.isi boot_isinstance (pa_cons (pv 2) (pa_cons (pe_glob (v:=.ref (c 6)) (by rfl) Nm.m6 rfl) pa_nil))) (pa_cons (pe_callB (call_isxD K) (by rfl) Nm.isi boot_isinstance (pa_cons (pv 2) (pa_cons (pe_glob (v:=.ref (c 7)) (by rfl) Nm.m7 rfl) pa_nil))) (pa_cons (pe_callB (call_isxD K) (by rfl) Nm.isi boot_isinstance (pa_cons (pv 2) (pa_cons (pe_glob (v:=.ref (c 8)) (by rfl) Nm.m8 rfl) pa_nil))) (pa_cons (pe_callB (call_isxD K) (by rfl) Nm.isi boot_isinstance (pa_cons (pv 2) (pa_cons (pe_glob (v:=.ref (c 9)) (by rfl) Nm.m9 rfl) pa_nil))) pa_nil)))))))
        (pss_cons (ps_set (i:=3) sc__law_b_told.nd rfl (Or.inl rfl) (pe_op op_cat (pv 3) (pe_lst (pa_cons (pe_callB (call_isxD K) (by rfl) Nm.isi boot_isinstance (pa_cons (pv 2) (pa_cons (pe_glob (v:=.ref (c 11)) (by rfl) Nm.m11 rfl) pa_nil))) (pa_cons (pe_callB (call_isxD K) (by rfl) Nm.isi boot_isinstance (pa_cons (pv 2) (pa_cons (pe_glob (v:=.ref (c 12)) (by rfl) Nm.m12 rfl) pa_nil))) (pa_cons (pe_callB (call_isxD K) (by rfl) Nm.isi boot_isinstance (pa_cons (pv 2) (pa_cons (pe_glob (v:=.ref (c 13)) (by rfl) Nm.m13 rfl) pa_nil))) (pa_cons (pe_callB (call_isxD K) (by rfl) Nm.isi boot_isinstance (pa_cons (pv 2) (pa_cons (pe_glob (v:=.ref (c 14)) (by rfl) Nm.m14 rfl) pa_nil))) pa_nil)))))))
        (pss_cons (ps_set (i:=4) sc__law_b_told.nd rfl (Or.inl rfl) (pe_lst (pa_cons (pe_callB (call_isxD K) (by rfl) Nm.isi boot_isinstance (pa_cons (pv 2) (pa_cons (pe_glob (v:=.ref (c 1)) (by rfl) Nm.m1 rfl) pa_nil))) (pa_cons (pe_callB (call_isxD K) (by rfl) Nm.isi boot_isinstance (pa_cons (pv 2) (pa_cons (pe_glob (v:=.ref (c 10)) (by rfl) Nm.m10 rfl) pa_nil))) pa_nil))))
        (pss_cons (ps_set (i:=1) sc__law_b_told.nd rfl (Or.inl rfl) (pe_str))
        (pss_one (ps_if (PW.pt (pw_and (pt_not (pt_val (pe_callB (call_anyH e rfl) (by rfl) Nm.an boot_any (pa_cons (pv 3) pa_nil)))) (pw_and (pt_cmpR op_eq (pe_bm PySem.F.plainAttrs_list PySem.F.slot_list_count PySem.F.type_list_count mt_countB (pv 4) (pa_cons pe_bl pa_nil)) pe_int (nomark _)) (pw_and1 (pt_val (pe_callB (call_isxD K) (by rfl) Nm.isi boot_isinstance (pa_cons (pv 2) (pa_cons (pe_bltn (v:=.ty "ValueError") (by rfl) Nm.ve boot_ValueError rfl) pa_nil)))))))) (pss_one (ps_set (i:=1) sc__law_b_told.nd rfl (Or.inl rfl) (pe_ix ix_list (pe_lst (pa_cons pe_str (pa_cons pe_str pa_nil))) (pe_bm PySem.F.plainAttrs_list PySem.F.slot_list_index PySem.F.type_list_index mt_indexB (pv 4) (pa_cons pe_bl pa_nil)) (fun _ _=>rfl)))) pss_nil))))))) Nm.m0)
      (pss_one (ps_ret (pv 1)))),?_⟩
  match vs,hl with
  | [v0],_=>
  refine ⟨_,rfl,  rfl,ρ,st0,pvs,R,rl,?_⟩
  unfold F__law_b_told at hA
  cases hr : F_steps pvs st0 with
  | ok a st1=>
    rw [hr] at hA
    exact fun H1 ρ1 x1 R1 v r=>⟨_,rfl,hA H1 ρ1 x1 R1 _ r⟩
  | stuck=>rw [hr] at hA; exact hA.elim
  | exc x st1=>
    rw [hr] at hA
    dsimp only at hA
    by_cases hx1 : x.cls = "NoTable"
    · rw [if_pos hx1] at hA
      intro C dv H1 ρ1 hm x1 R1 fs
      rw [hx1,Nm.m1] at hm
      cases hm
      refine ⟨_,rfl,T1.ex,fun e he=>?_⟩
      obtain ⟨H2,e2⟩ : ∃ H2,upd H1 e (.ext (IsXD e (c 1) dv)) = H2:=⟨_,rfl⟩
      have hE2 : H2 e = some (.ext (IsXD e (c 1) dv)):=e2 ▸ upd_same
      have x2 : Ext H1 ρ1 H2 ρ1:=e2 ▸ Ext.add he
      have R2 : Rel H2 ρ1 st1:=e2 ▸ R1.add he
      rw [e2]
      refine ⟨_,rfl,e,_,_,_,_,false,rfl,rfl,hE2,T1.xc,T1.k 3 (by decide) (by decide),?_⟩
      refine ⟨_,rfl,e,_,_,_,_,false,rfl,rfl,hE2,T1.xc,T1.k 2 (by decide) (by decide),?_⟩
      refine ⟨_,rfl,e,_,_,_,_,false,rfl,rfl,hE2,T1.xc,T1.k 4 (by decide) (by decide),?_⟩
      refine ⟨_,rfl,e,_,_,_,_,false,rfl,rfl,hE2,T1.xc,T1.k 5 (by decide) (by decide),?_⟩
      refine ⟨by decide,fun p1 hp1=>?_⟩
      obtain ⟨H3,e3⟩ : ∃ H3,upd H2 p1 (.lst [.bl false,.bl false,.bl false,.bl false]) = H3:=⟨_,rfl⟩
      have hE3 : H3 e = some (.ext (IsXD e (c 1) dv)):=e3 ▸ keepE hE2 hp1
      have x3 : Ext H1 ρ1 H3 ρ1:=e3 ▸ x2.trans (Ext.add hp1)
      have R3 : Rel H3 ρ1 st1:=e3 ▸ R2.add hp1
      have np1 : H3 p1 = some (.lst [.bl false,.bl false,.bl false,.bl false]):=e3 ▸ upd_same
      rw [show upd H2 p1 (.lst (_)) = H3 from e3]
      refine ⟨_,rfl,?_⟩
      refine ⟨_,rfl,e,_,_,_,_,false,rfl,rfl,hE3,T1.xc,T1.k 6 (by decide) (by decide),?_⟩
      refine ⟨_,rfl,e,_,_,_,_,false,rfl,rfl,hE3,T1.xc,T1.k 7 (by decide) (by decide),?_⟩
      refine ⟨_,rfl,e,_,_,_,_,false,rfl,rfl,hE3,T1.xc,T1.k 8 (by decide) (by decide),?_⟩
      refine ⟨_,rfl,e,_,_,_,_,false,rfl,rfl,hE3,T1.xc,T1.k 9 (by decide) (by decide),?_⟩
      refine ⟨by decide,fun p2 hp2=>?_⟩
      obtain ⟨H4,e4⟩ : ∃ H4,upd H3 p2 (.lst [.bl false,.bl false,.bl false,.bl false]) = H4:=⟨_,rfl⟩
      have hE4 : H4 e = some (.ext (IsXD e (c 1) dv)):=e4 ▸ keepE hE3 hp2
      have x4 : Ext H1 ρ1 H4 ρ1:=e4 ▸ x3.trans (Ext.add hp2)
      have R4 : Rel H4 ρ1 st1:=e4 ▸ R3.add hp2
      have np2 : H4 p2 = some (.lst [.bl false,.bl false,.bl false,.bl false]):=e4 ▸ upd_same
      have kp1_4 : H4 p1 = some (.lst [.bl false,.bl false,.bl false,.bl false]):=e4 ▸ keepE np1 hp2
      rw [show upd H3 p2 (.lst (_)) = H4 from e4]
      refine ⟨_,_,_,_,rfl,rfl,kp1_4,np2,by decide,fun p3 hp3=>?_⟩
      obtain ⟨H5,e5⟩ : ∃ H5,upd H4 p3 (.lst [.bl false,.bl false,.bl false,.bl false,.bl false,.bl false,.bl false,.bl false]) = H5:=⟨_,rfl⟩
      have hE5 : H5 e = some (.ext (IsXD e (c 1) dv)):=e5 ▸ keepE hE4 hp3
      have x5 : Ext H1 ρ1 H5 ρ1:=e5 ▸ x4.trans (Ext.add hp3)
      have R5 : Rel H5 ρ1 st1:=e5 ▸ R4.add hp3
      have np3 : H5 p3 = some (.lst [.bl false,.bl false,.bl false,.bl false,.bl false,.bl false,.bl false,.bl false]):=e5 ▸ upd_same
      have kp1_5 : H5 p1 = some (.lst [.bl false,.bl false,.bl false,.bl false]):=e5 ▸ keepE kp1_4 hp3
      rw [show upd H4 p3 (.lst ([.bl false,.bl false,.bl false,.bl false] ++ [.bl false,.bl false,.bl false,.bl false])) = H5 from e5]
      refine ⟨_,rfl,?_⟩
      refine ⟨_,rfl,e,_,_,_,_,false,rfl,rfl,hE5,T1.xc,T1.k 11 (by decide) (by decide),?_⟩
      refine ⟨_,rfl,e,_,_,_,_,false,rfl,rfl,hE5,T1.xc,T1.k 12 (by decide) (by decide),?_⟩
      refine ⟨_,rfl,e,_,_,_,_,false,rfl,rfl,hE5,T1.xc,T1.k 13 (by decide) (by decide),?_⟩
      refine ⟨_,rfl,e,_,_,_,_,false,rfl,rfl,hE5,T1.xc,T1.k 14 (by decide) (by decide),?_⟩
      refine ⟨by decide,fun p4 hp4=>?_⟩
      obtain ⟨H6,e6⟩ : ∃ H6,upd H5 p4 (.lst [.bl false,.bl false,.bl false,.bl false]) = H6:=⟨_,rfl⟩
      have hE6 : H6 e = some (.ext (IsXD e (c 1) dv)):=e6 ▸ keepE hE5 hp4
      have x6 : Ext H1 ρ1 H6 ρ1:=e6 ▸ x5.trans (Ext.add hp4)
      have R6 : Rel H6 ρ1 st1:=e6 ▸ R5.add hp4
      have np4 : H6 p4 = some (.lst [.bl false,.bl false,.bl false,.bl false]):=e6 ▸ upd_same
      have kp3_6 : H6 p3 = some (.lst [.bl false,.bl false,.bl false,.bl false,.bl false,.bl false,.bl false,.bl false]):=e6 ▸ keepE np3 hp4
      rw [show upd H5 p4 (.lst (_)) = H6 from e6]
      refine ⟨_,_,_,_,rfl,rfl,kp3_6,np4,by decide,fun p5 hp5=>?_⟩
      obtain ⟨H7,e7⟩ : ∃ H7,upd H6 p5 (.lst [.bl false,.bl false,.bl false,.bl false,.bl false,.bl false,.bl false,.bl false,.bl false,.bl false,.bl false,.bl false]) = H7:=⟨_,rfl⟩
      have hE7 : H7 e = some (.ext (IsXD e (c 1) dv)):=e7 ▸ keepE hE6 hp5
      have x7 : Ext H1 ρ1 H7 ρ1:=e7 ▸ x6.trans (Ext.add hp5)
      have R7 : Rel H7 ρ1 st1:=e7 ▸ R6.add hp5
      have np5 : H7 p5 = some (.lst [.bl false,.bl false,.bl false,.bl false,.bl false,.bl false,.bl false,.bl false,.bl false,.bl false,.bl false,.bl false]):=e7 ▸ upd_same
      have kp3_7 : H7 p3 = some (.lst [.bl false,.bl false,.bl false,.bl false,.bl false,.bl false,.bl false,.bl false]):=e7 ▸ keepE kp3_6 hp5
      rw [show upd H6 p5 (.lst ([.bl false,.bl false,.bl false,.bl false,.bl false,.bl false,.bl false,.bl false] ++ [.bl false,.bl false,.bl false,.bl false])) = H7 from e7]
      refine ⟨_,rfl,e,_,_,_,_,true,rfl,rfl,hE7,T1.xc,T1.k 1 (by decide) (by decide),?_⟩
      refine ⟨_,rfl,e,_,_,_,_,false,rfl,rfl,hE7,T1.xc,T1.k 10 (by decide) (by decide),?_⟩
      refine ⟨by decide,fun p6 hp6=>?_⟩
      obtain ⟨H8,e8⟩ : ∃ H8,upd H7 p6 (.lst [.bl true,.bl false]) = H8:=⟨_,rfl⟩
      have hE8 : H8 e = some (.ext (IsXD e (c 1) dv)):=e8 ▸ keepE hE7 hp6
      have x8 : Ext H1 ρ1 H8 ρ1:=e8 ▸ x7.trans (Ext.add hp6)
      have R8 : Rel H8 ρ1 st1:=e8 ▸ R7.add hp6
      have np6 : H8 p6 = some (.lst [.bl true,.bl false]):=e8 ▸ upd_same
      have kp5_8 : H8 p5 = some (.lst [.bl false,.bl false,.bl false,.bl false,.bl false,.bl false,.bl false,.bl false,.bl false,.bl false,.bl false,.bl false]):=e8 ▸ keepE np5 hp6
      rw [show upd H7 p6 (.lst (_)) = H8 from e8]
      refine ⟨_,rfl,_,_,_,[false,false,false,false,false,false,false,false,false,false,false,false],rfl,sqk_of kp5_8,hE8,false,rfl,iteT ?_⟩
      refine ⟨_,rfl,.inl ⟨rfl,_,.inl (.inl np6)⟩,_,[true,false],rfl,rfl,np6,rfl,_,rfl,iteT ?_⟩
      refine ⟨_,rfl,e,_,_,_,_,true,rfl,rfl,hE8,T1.xc,T1.ve,_,rfl,iteT ?_⟩
      refine ⟨by decide,fun p7 hp7=>?_⟩
      obtain ⟨H9,e9⟩ : ∃ H9,upd H8 p7 (.lst [.str "table",.str "many"]) = H9:=⟨_,rfl⟩
      have hE9 : H9 e = some (.ext (IsXD e (c 1) dv)):=e9 ▸ keepE hE8 hp7
      have x9 : Ext H1 ρ1 H9 ρ1:=e9 ▸ x8.trans (Ext.add hp7)
      have R9 : Rel H9 ρ1 st1:=e9 ▸ R8.add hp7
      have np7 : H9 p7 = some (.lst [.str "table",.str "many"]):=e9 ▸ upd_same
      have kp5_9 : H9 p5 = some (.lst [.bl false,.bl false,.bl false,.bl false,.bl false,.bl false,.bl false,.bl false,.bl false,.bl false,.bl false,.bl false]):=e9 ▸ keepE kp5_8 hp7
      have kp6_9 : H9 p6 = some (.lst [.bl true,.bl false]):=e9 ▸ keepE np6 hp7
      rw [show upd H8 p7 (.lst (_)) = H9 from e9]
      refine ⟨_,rfl,.inl ⟨rfl,_,.inl (.inl kp6_9)⟩,_,[true,false],0,rfl,rfl,kp6_9,by decide,rfl,noB _ _ (by decide) (by decide),?_⟩
      refine ⟨_,_,_,_,rfl,rfl,.inl (.inl np7),rfl,?_⟩
      exact ⟨_,rfl,hA _ _ (x1.trans x9) R9 _ rfl⟩
    · rw [if_neg hx1] at hA
      by_cases hx10 : x.cls = "TooMany"
      · rw [if_pos hx10] at hA
        intro C dv H1 ρ1 hm x1 R1 fs
        rw [hx10,Nm.m10] at hm
        cases hm
        refine ⟨_,rfl,T10.ex,fun e he=>?_⟩
        obtain ⟨H2,e2⟩ : ∃ H2,upd H1 e (.ext (IsXD e (c 10) dv)) = H2:=⟨_,rfl⟩
        have hE2 : H2 e = some (.ext (IsXD e (c 10) dv)):=e2 ▸ upd_same
        have x2 : Ext H1 ρ1 H2 ρ1:=e2 ▸ Ext.add he
        have R2 : Rel H2 ρ1 st1:=e2 ▸ R1.add he
        rw [e2]
        refine ⟨_,rfl,e,_,_,_,_,false,rfl,rfl,hE2,T10.xc,T10.k 3 (by decide) (by decide),?_⟩
        refine ⟨_,rfl,e,_,_,_,_,false,rfl,rfl,hE2,T10.xc,T10.k 2 (by decide) (by decide),?_⟩
        refine ⟨_,rfl,e,_,_,_,_,false,rfl,rfl,hE2,T10.xc,T10.k 4 (by decide) (by decide),?_⟩
        refine ⟨_,rfl,e,_,_,_,_,false,rfl,rfl,hE2,T10.xc,T10.k 5 (by decide) (by decide),?_⟩
        refine ⟨by decide,fun p1 hp1=>?_⟩
        obtain ⟨H3,e3⟩ : ∃ H3,upd H2 p1 (.lst [.bl false,.bl false,.bl false,.bl false]) = H3:=⟨_,rfl⟩
        have hE3 : H3 e = some (.ext (IsXD e (c 10) dv)):=e3 ▸ keepE hE2 hp1
        have x3 : Ext H1 ρ1 H3 ρ1:=e3 ▸ x2.trans (Ext.add hp1)
        have R3 : Rel H3 ρ1 st1:=e3 ▸ R2.add hp1
        have np1 : H3 p1 = some (.lst [.bl false,.bl false,.bl false,.bl false]):=e3 ▸ upd_same
        rw [show upd H2 p1 (.lst (_)) = H3 from e3]
        refine ⟨_,rfl,?_⟩
        refine ⟨_,rfl,e,_,_,_,_,false,rfl,rfl,hE3,T10.xc,T10.k 6 (by decide) (by decide),?_⟩
        refine ⟨_,rfl,e,_,_,_,_,false,rfl,rfl,hE3,T10.xc,T10.k 7 (by decide) (by decide),?_⟩
        refine ⟨_,rfl,e,_,_,_,_,false,rfl,rfl,hE3,T10.xc,T10.k 8 (by decide) (by decide),?_⟩
        refine ⟨_,rfl,e,_,_,_,_,false,rfl,rfl,hE3,T10.xc,T10.k 9 (by decide) (by decide),?_⟩
        refine ⟨by decide,fun p2 hp2=>?_⟩
        obtain ⟨H4,e4⟩ : ∃ H4,upd H3 p2 (.lst [.bl false,.bl false,.bl false,.bl false]) = H4:=⟨_,rfl⟩
        have hE4 : H4 e = some (.ext (IsXD e (c 10) dv)):=e4 ▸ keepE hE3 hp2
        have x4 : Ext H1 ρ1 H4 ρ1:=e4 ▸ x3.trans (Ext.add hp2)
        have R4 : Rel H4 ρ1 st1:=e4 ▸ R3.add hp2
        have np2 : H4 p2 = some (.lst [.bl false,.bl false,.bl false,.bl false]):=e4 ▸ upd_same
        have kp1_4 : H4 p1 = some (.lst [.bl false,.bl false,.bl false,.bl false]):=e4 ▸ keepE np1 hp2
        rw [show upd H3 p2 (.lst (_)) = H4 from e4]
        refine ⟨_,_,_,_,rfl,rfl,kp1_4,np2,by decide,fun p3 hp3=>?_⟩
        obtain ⟨H5,e5⟩ : ∃ H5,upd H4 p3 (.lst [.bl false,.bl false,.bl false,.bl false,.bl false,.bl false,.bl false,.bl false]) = H5:=⟨_,rfl⟩
        have hE5 : H5 e = some (.ext (IsXD e (c 10) dv)):=e5 ▸ keepE hE4 hp3
        have x5 : Ext H1 ρ1 H5 ρ1:=e5 ▸ x4.trans (Ext.add hp3)
        have R5 : Rel H5 ρ1 st1:=e5 ▸ R4.add hp3
        have np3 : H5 p3 = some (.lst [.bl false,.bl false,.bl false,.bl false,.bl false,.bl false,.bl false,.bl false]):=e5 ▸ upd_same
        have kp1_5 : H5 p1 = some (.lst [.bl false,.bl false,.bl false,.bl false]):=e5 ▸ keepE kp1_4 hp3
        rw [show upd H4 p3 (.lst ([.bl false,.bl false,.bl false,.bl false] ++ [.bl false,.bl false,.bl false,.bl false])) = H5 from e5]
        refine ⟨_,rfl,?_⟩
        refine ⟨_,rfl,e,_,_,_,_,false,rfl,rfl,hE5,T10.xc,T10.k 11 (by decide) (by decide),?_⟩
        refine ⟨_,rfl,e,_,_,_,_,false,rfl,rfl,hE5,T10.xc,T10.k 12 (by decide) (by decide),?_⟩
        refine ⟨_,rfl,e,_,_,_,_,false,rfl,rfl,hE5,T10.xc,T10.k 13 (by decide) (by decide),?_⟩
        refine ⟨_,rfl,e,_,_,_,_,false,rfl,rfl,hE5,T10.xc,T10.k 14 (by decide) (by decide),?_⟩
        refine ⟨by decide,fun p4 hp4=>?_⟩
        obtain ⟨H6,e6⟩ : ∃ H6,upd H5 p4 (.lst [.bl false,.bl false,.bl false,.bl false]) = H6:=⟨_,rfl⟩
        have hE6 : H6 e = some (.ext (IsXD e (c 10) dv)):=e6 ▸ keepE hE5 hp4
        have x6 : Ext H1 ρ1 H6 ρ1:=e6 ▸ x5.trans (Ext.add hp4)
        have R6 : Rel H6 ρ1 st1:=e6 ▸ R5.add hp4
        have np4 : H6 p4 = some (.lst [.bl false,.bl false,.bl false,.bl false]):=e6 ▸ upd_same
        have kp3_6 : H6 p3 = some (.lst [.bl false,.bl false,.bl false,.bl false,.bl false,.bl false,.bl false,.bl false]):=e6 ▸ keepE np3 hp4
        rw [show upd H5 p4 (.lst (_)) = H6 from e6]
        refine ⟨_,_,_,_,rfl,rfl,kp3_6,np4,by decide,fun p5 hp5=>?_⟩
        obtain ⟨H7,e7⟩ : ∃ H7,upd H6 p5 (.lst [.bl false,.bl false,.bl false,.bl false,.bl false,.bl false,.bl false,.bl false,.bl false,.bl false,.bl false,.bl false]) = H7:=⟨_,rfl⟩
        have hE7 : H7 e = some (.ext (IsXD e (c 10) dv)):=e7 ▸ keepE hE6 hp5
        have x7 : Ext H1 ρ1 H7 ρ1:=e7 ▸ x6.trans (Ext.add hp5)
        have R7 : Rel H7 ρ1 st1:=e7 ▸ R6.add hp5
        have np5 : H7 p5 = some (.lst [.bl false,.bl false,.bl false,.bl false,.bl false,.bl false,.bl false,.bl false,.bl false,.bl false,.bl false,.bl false]):=e7 ▸ upd_same
        have kp3_7 : H7 p3 = some (.lst [.bl false,.bl false,.bl false,.bl false,.bl false,.bl false,.bl false,.bl false]):=e7 ▸ keepE kp3_6 hp5
        rw [show upd H6 p5 (.lst ([.bl false,.bl false,.bl false,.bl false,.bl false,.bl false,.bl false,.bl false] ++ [.bl false,.bl false,.bl false,.bl false])) = H7 from e7]
        refine ⟨_,rfl,e,_,_,_,_,false,rfl,rfl,hE7,T10.xc,T10.k 1 (by decide) (by decide),?_⟩
        refine ⟨_,rfl,e,_,_,_,_,true,rfl,rfl,hE7,T10.xc,T10.k 10 (by decide) (by decide),?_⟩
        refine ⟨by decide,fun p6 hp6=>?_⟩
        obtain ⟨H8,e8⟩ : ∃ H8,upd H7 p6 (.lst [.bl false,.bl true]) = H8:=⟨_,rfl⟩
        have hE8 : H8 e = some (.ext (IsXD e (c 10) dv)):=e8 ▸ keepE hE7 hp6
        have x8 : Ext H1 ρ1 H8 ρ1:=e8 ▸ x7.trans (Ext.add hp6)
        have R8 : Rel H8 ρ1 st1:=e8 ▸ R7.add hp6
        have np6 : H8 p6 = some (.lst [.bl false,.bl true]):=e8 ▸ upd_same
        have kp5_8 : H8 p5 = some (.lst [.bl false,.bl false,.bl false,.bl false,.bl false,.bl false,.bl false,.bl false,.bl false,.bl false,.bl false,.bl false]):=e8 ▸ keepE np5 hp6
        rw [show upd H7 p6 (.lst (_)) = H8 from e8]
        refine ⟨_,rfl,_,_,_,[false,false,false,false,false,false,false,false,false,false,false,false],rfl,sqk_of kp5_8,hE8,false,rfl,iteT ?_⟩
        refine ⟨_,rfl,.inl ⟨rfl,_,.inl (.inl np6)⟩,_,[false,true],rfl,rfl,np6,rfl,_,rfl,iteT ?_⟩
        refine ⟨_,rfl,e,_,_,_,_,true,rfl,rfl,hE8,T10.xc,T10.ve,_,rfl,iteT ?_⟩
        refine ⟨by decide,fun p7 hp7=>?_⟩
        obtain ⟨H9,e9⟩ : ∃ H9,upd H8 p7 (.lst [.str "table",.str "many"]) = H9:=⟨_,rfl⟩
        have hE9 : H9 e = some (.ext (IsXD e (c 10) dv)):=e9 ▸ keepE hE8 hp7
        have x9 : Ext H1 ρ1 H9 ρ1:=e9 ▸ x8.trans (Ext.add hp7)
        have R9 : Rel H9 ρ1 st1:=e9 ▸ R8.add hp7
        have np7 : H9 p7 = some (.lst [.str "table",.str "many"]):=e9 ▸ upd_same
        have kp5_9 : H9 p5 = some (.lst [.bl false,.bl false,.bl false,.bl false,.bl false,.bl false,.bl false,.bl false,.bl false,.bl false,.bl false,.bl false]):=e9 ▸ keepE kp5_8 hp7
        have kp6_9 : H9 p6 = some (.lst [.bl false,.bl true]):=e9 ▸ keepE np6 hp7
        rw [show upd H8 p7 (.lst (_)) = H9 from e9]
        refine ⟨_,rfl,.inl ⟨rfl,_,.inl (.inl kp6_9)⟩,_,[false,true],1,rfl,rfl,kp6_9,by decide,rfl,noB _ _ (by decide) (by decide),?_⟩
        refine ⟨_,_,_,_,rfl,rfl,.inl (.inl np7),rfl,?_⟩
        exact ⟨_,rfl,hA _ _ (x1.trans x9) R9 _ rfl⟩
      · rw [if_neg hx10] at hA
        exact hA.elim
def e__law_b_is_step_1 : ME:=(mCallF 1 F__law_b_whole (mCons (mVar 0) mNil))
def m__law_b_is_step : MS := (mSeqS (mIfS (tOrM (tNotM (toB (mIsI "tuple" (mVar 0)))) (tOrM (toB (mOp oLt (mCall cLen (mCons (mVar 0) mNil)) (mC (.int 3)))) (tNotM (toB (mCall (cBls fun ns => .bl (ns.all id)) (mCons (mVal (mCompN [none] (gaName 0) (mSeq (mSl (mVar 0) (mPart (mC (.int 1))) mNoPart)) mTrue e__law_b_is_step_1)) mNil)))))) (mRet (mC (.bl false))) mNext)
    (mSeqS (mIfS (tOrM (tNotM (toB (mChain (oI fun a b=>.bl (decide (a <= b))) oLt (mC (.int 0)) (mOp oIx (mVar 0) (mC (.int 1))) (mVar 1)))) (toB (mOp oNe (mOp oIx (mVar 0) (mNeg (mC (.int 1)))) (mC (.int 1))))) (mRet (mC (.bl false))) mNext)
    (mSeqS (mIfS (toB (mOp oEq (mOp oIx (mVar 0) (mC (.int 0))) (mC (.str "lend")))) (mRet (mAnd (mOp oEq (mCall cLen (mCons (mVar 0) mNil)) (mC (.int 4))) (mAnd (mChain (oI fun a b=>.bl (decide (a <= b))) oLt (mC (.int 0)) (mOp oIx (mVar 0) (mC (.int 2))) (mVar 1)) (mOp oNe (mOp oIx (mVar 0) (mC (.int 1))) (mOp oIx (mVar 0) (mC (.int 2))))))) mNext)
    (mRet (mAnd (mOp oEq (mCall cLen (mCons (mVar 0) mNil)) (mC (.int 3))) (mOr (mOp oEq (mOp oIx (mVar 0) (mC (.int 0))) (mC (.str "make"))) (mOp oEq (mOp oIx (mVar 0) (mC (.int 0))) (mC (.str "use")))))))))
def F__law_b_is_step : FN:=callF m__law_b_is_step 2
theorem sc__law_b_is_step : FnScope ["deed", "n"] ["deed", "n"] (defScope s__law_b_is_step):=⟨rfl,rfl,rfl,by decide +kernel,rfl,by decide +kernel,by decide +kernel⟩
theorem ok__law_b_is_step {f : Addr} {fd : FuncData} (F : Fun K "_law_b_is_step" "_law_b_is_step" s__law_b_is_step f fd) (T : Txt mg)  (D__law_b_whole : DefS P w K mg base 1 "_law_b_whole" 1 F__law_b_whole) : FnOk P w K mg base (CXD P w) 2 f fd ["deed", "n"] (spF mg 2 F__law_b_is_step):=by
  refine fun_ok2 (k:=1) (m:=m__law_b_is_step) F sc__law_b_is_step rfl rfl rfl fun cdv A outer s H E hr=>?_
  exact (sb_cons (ss_if (SimW.t (sw_or (st_not (st_val (se_isi (T := "tuple") (by decide) (se_var 0) rfl T.b_isinstance rfl T.b_tuple boot_tuple))) (sw_or (st_cmp (os_lt hr.units) (se_callB cs_len rfl T.b_len PySem.boot_len (sa_cons (se_var 0) sa_nil)) se_int) (sw_or1 (st_not (st_val (se_callB (cs_all rfl) rfl T.b_all boot_all (sa_cons (se_val (sn_comp [none] ["part"] rfl (si_seq (se_slice (se_var 0) (so_some se_int) so_none)) (fun _ _ _ _ _=>(sg_name (i:=0) (show (["part"] : List Str).Nodup by decide +kernel))) (fun _ _ _ _ _=>(se_call D__law_b_whole (hr.mono (by decide)) pass00D rfl (sa_cons (se_var 0) sa_nil))) (fun _ _ _ _ _=>sts_nil) free_name)) sa_nil)))))))) (sb_one (ss_ret se_bl)) sb_nil)
    (sb_cons (ss_if (SimW.t (sw_or (st_not (st_chain os_le (os_lt hr.units) se_int (se_ix (se_var 0) se_int) (se_var 1))) (sw_or1 (st_cmp (os_ne hr.units) (se_ix (se_var 0) (se_neg se_int)) se_int)))) (sb_one (ss_ret se_bl)) sb_nil)
    (sb_cons (ss_if (st_cmp (os_eq hr.units) (se_ix (se_var 0) se_int) se_str) (sb_one (ss_ret (se_and (se_cmp (os_eq hr.units) (se_callB cs_len rfl T.b_len PySem.boot_len (sa_cons (se_var 0) sa_nil)) se_int) (se_and (se_chain os_le (os_lt hr.units) se_int (se_ix (se_var 0) se_int) (se_var 1)) (se_one (se_cmp (os_ne hr.units) (se_ix (se_var 0) se_int) (se_ix (se_var 0) se_int))))))) sb_nil)
    (sb_one (ss_ret (se_and (se_cmp (os_eq hr.units) (se_callB cs_len rfl T.b_len PySem.boot_len (sa_cons (se_var 0) sa_nil)) se_int) (se_one (se_or (se_cmp (os_eq hr.units) (se_ix (se_var 0) se_int) se_str) (se_one (se_cmp (os_eq hr.units) (se_ix (se_var 0) se_int) se_str))))))))))
def e__law_b_lead_1 : ME:=(mTrk (mRepN (mLst (mCons (mC (.int 0)) mNil)) (mOp oAdd (mVar 1) (mC (.int 1)))))
def b__law_b_lead_1 : MS := (mSeqS (mIfS (tNotM (toB (mCallF 2 F__law_b_is_step (mCons (mVar 5) (mCons (mVar 2) mNil))))) (mRet (mC (.bl false))) mNext)
    (mSeqS (mSet 6 (mOp oIx (mVar 5) (mC (.int 1))))
    (mIfS (toB (mOp oEq (mOp oIx (mVar 5) (mC (.int 0))) (mC (.str "make")))) (mSeqS (mSetIx (mOp oIx (mVar 3) (mVar 6)) (mVar 6) (mOp oAdd (mOp oIx (mOp oIx (mVar 3) (mVar 6)) (mVar 6)) (mC (.int 1))))
    (mSetIx (mVar 4) (mVar 6) (mOp oAdd (mOp oIx (mVar 4) (mVar 6)) (mC (.int 1))))) (mSeqS (mIfS (toB (mOp oLt (mOp oIx (mVar 4) (mVar 6)) (mC (.int 1)))) (mRet (mC (.bl false))) mNext)
    (mSeqS (mSetIx (mVar 4) (mVar 6) (mOp (oI fun a b=>.int (a - b)) (mOp oIx (mVar 4) (mVar 6)) (mC (.int 1))))
    (mSeqS (mSet 7 (mVar 2))
    (mSeqS (mIfS (toB (mOp oEq (mOp oIx (mVar 5) (mC (.int 0))) (mC (.str "lend")))) (mSeqS (mSet 7 (mOp oIx (mVar 5) (mC (.int 2))))
    (mSetIx (mVar 4) (mVar 7) (mOp oAdd (mOp oIx (mVar 4) (mVar 7)) (mC (.int 1))))) mNext)
    (mSetIx (mOp oIx (mVar 3) (mVar 6)) (mVar 7) (mOp oAdd (mOp oIx (mOp oIx (mVar 3) (mVar 6)) (mVar 7)) (mC (.int 1)))))))))))
def e__law_b_lead_2 : ME:=(mCall cList (mCons (mVar 0) mNil))
def m__law_b_lead : MS := (mSeqS (mSet 2 (mCall cLen (mCons (mVar 0) mNil)))
    (mSeqS (mSet 3 (mTrk (mCompN [none,some 2] (gaName 0) (mRange1 (mCons (mVar 2) mNil)) mTrue e__law_b_lead_1)))
    (mSeqS (mSet 4 (mTrk (mRepN (mLst (mCons (mC (.int 0)) mNil)) (mVar 2))))
    (mSeqS (mFor (gaName 5) (mSeq (mVar 1)) b__law_b_lead_1)
    (mRet (mOp oEqD (mVar 3) (mVal (mCompN [none] (gaName 0) (mSeq (mVar 0)) mTrue e__law_b_lead_2))))))))
def F__law_b_lead : FN:=callF m__law_b_lead 8
theorem sc__law_b_lead : FnScope ["table", "deeds", "n", "rows", "has", "deed", "house", "place"] ["table", "deeds"] (defScope s__law_b_lead):=⟨rfl,rfl,rfl,by decide +kernel,rfl,by decide +kernel,by decide +kernel⟩
theorem ok__law_b_lead {f : Addr} {fd : FuncData} (F : Fun K "_law_b_lead" "_law_b_lead" s__law_b_lead f fd) (T : Txt mg)  (D__law_b_is_step : DefS P w K mg base 2 "_law_b_is_step" 2 F__law_b_is_step) : FnOk P w K mg base (CXD P w) 3 f fd ["table", "deeds"] (spF mg 2 F__law_b_lead):=by
  refine fun_ok2 (k:=2) (m:=m__law_b_lead) F sc__law_b_lead rfl rfl rfl fun cdv A outer s H E hr=>?_
  exact (sb_cons (ss_set 2 sc__law_b_lead.nd (se_callB cs_len rfl T.b_len PySem.boot_len (sa_cons (se_var 0) sa_nil)))
    (sb_cons (by first | exact ss_compT [none,some 2] ["house", "n"] 3 sc__law_b_lead.nd rfl (si_range1 rfl T.b_range (sa_cons (se_var 2) sa_nil)) (fun _ _ _ _ _=>(sg_name (i:=0) (show (["house", "n"] : List Str).Nodup by decide +kernel))) (fun _ _ _ _ _=>(se_trk (sn_rep (se_lst (sa_cons se_int sa_nil)) (se_op os_add (se_var 1) se_int)))) (fun _ _ _ _ _=>sts_nil) free_name | exact ss_set 3 sc__law_b_lead.nd (se_trk (sn_comp [none,some 2] ["house", "n"] rfl (si_range1 rfl T.b_range (sa_cons (se_var 2) sa_nil)) (fun _ _ _ _ _=>(sg_name (i:=0) (show (["house", "n"] : List Str).Nodup by decide +kernel))) (fun _ _ _ _ _=>(se_trk (sn_rep (se_lst (sa_cons se_int sa_nil)) (se_op os_add (se_var 1) se_int)))) (fun _ _ _ _ _=>sts_nil) free_name)))
    (sb_cons (ss_set 4 sc__law_b_lead.nd (se_trk (sn_rep (se_lst (sa_cons se_int sa_nil)) (se_var 2))))
    (sb_cons (ss_for PassesOwn.leaving rfl (si_seq (se_var 1)) (sg_name (i:=5) sc__law_b_lead.nd) (sb_cons (ss_if (st_not (st_val (se_call D__law_b_is_step (hr.mono (by decide)) pass_onD rfl (sa_cons (se_var 5) (sa_cons (se_var 2) sa_nil))))) (sb_one (ss_ret se_bl)) sb_nil)
    (sb_cons (ss_set 6 sc__law_b_lead.nd (se_ix (se_var 5) se_int))
    (sb_one (ss_if (st_cmp (os_eq hr.units) (se_ix (se_var 5) se_int) se_str) (sb_cons (ss_sub (se_op os_add (se_ix (se_ix (se_var 3) (se_var 6)) (se_var 6)) se_int) (se_ix (se_var 3) (se_var 6)) (se_var 6))
    (sb_one (ss_sub (se_op os_add (se_ix (se_var 4) (se_var 6)) se_int) (se_var 4) (se_var 6)))) (sb_cons (ss_if (st_cmp (os_lt hr.units) (se_ix (se_var 4) (se_var 6)) se_int) (sb_one (ss_ret se_bl)) sb_nil)
    (sb_cons (ss_sub (se_op os_sub (se_ix (se_var 4) (se_var 6)) se_int) (se_var 4) (se_var 6))
    (sb_cons (ss_set 7 sc__law_b_lead.nd (se_var 2))
    (sb_cons (ss_if (st_cmp (os_eq hr.units) (se_ix (se_var 5) se_int) se_str) (sb_cons (ss_set 7 sc__law_b_lead.nd (se_ix (se_var 5) se_int))
    (sb_one (ss_sub (se_op os_add (se_ix (se_var 4) (se_var 7)) se_int) (se_var 4) (se_var 7)))) sb_nil)
    (sb_one (ss_sub (se_op os_add (se_ix (se_ix (se_var 3) (se_var 6)) (se_var 7)) se_int) (se_ix (se_var 3) (se_var 6)) (se_var 7))))))))))))
    (sb_one (ss_ret (se_cmp (os_eqD hr.units) (se_var 3) (se_val (sn_comp [none] ["row"] rfl (si_seq (se_var 0)) (fun _ _ _ _ _=>(sg_name (i:=0) (show (["row"] : List Str).Nodup by decide +kernel))) (fun _ _ _ _ _=>(se_callT cs_list rfl T.b_list boot_list (sa_cons (se_var 0) sa_nil))) (fun _ _ _ _ _=>sts_nil) free_name)))))))))
def b__law_b_comes_1 : MS:=(mIfS (tOrM (toB (mOp oLt (mCallF 2 F__law_b_rights (mCons (mVar 0) (mCons (mVar 3) mNil))) (mC (.int 0)))) (tAndM (toB (mCallF 2 F__law_b_busy (mCons (mVar 0) (mCons (mVar 3) mNil)))) (tNotM (toB (mOp oIx (mVar 2) (mVar 3)))))) (mRet (mC (.bl false))) mNext)
def m__law_b_comes : MS := (mSeqS (mSet 1 (mCall cLen (mCons (mVar 0) mNil)))
    (mSeqS (mSet 2 (mCallF 1 F__law_b_known (mCons (mVar 0) mNil)))
    (mSeqS (mFor (gaName 3) (mRange1 (mCons (mVar 1) mNil)) b__law_b_comes_1)
    (mRet (mC (.bl true))))))
def F__law_b_comes : FN:=callF m__law_b_comes 4
theorem sc__law_b_comes : FnScope ["table", "n", "known", "house"] ["table"] (defScope s__law_b_comes):=⟨rfl,rfl,rfl,by decide +kernel,rfl,by decide +kernel,by decide +kernel⟩
theorem ok__law_b_comes {f : Addr} {fd : FuncData} (F : Fun K "_law_b_comes" "_law_b_comes" s__law_b_comes f fd) (T : Txt mg)  (D__law_b_known : DefS P w K mg base 1 "_law_b_known" 1 F__law_b_known) (D__law_b_rights : DefS P w K mg base 1 "_law_b_rights" 2 F__law_b_rights) (D__law_b_busy : DefS P w K mg base 1 "_law_b_busy" 2 F__law_b_busy) : FnOk P w K mg base (CXD P w) 2 f fd ["table"] (spF mg 1 F__law_b_comes):=by
  refine fun_ok2 (k:=1) (m:=m__law_b_comes) F sc__law_b_comes rfl rfl rfl fun cdv A outer s H E hr=>?_
  exact (sb_cons (ss_set 1 sc__law_b_comes.nd (se_callB cs_len rfl T.b_len PySem.boot_len (sa_cons (se_var 0) sa_nil)))
    (sb_cons (ss_set 2 sc__law_b_comes.nd (se_call D__law_b_known (hr.mono (by decide)) pass_onD rfl (sa_cons (se_var 0) sa_nil)))
    (sb_cons (ss_for PassesOwn.leaving rfl (si_range1 rfl T.b_range (sa_cons (se_var 1) sa_nil)) (sg_name (i:=3) sc__law_b_comes.nd) (sb_one (ss_if (SimW.t (sw_or (st_cmp (os_lt hr.units) (se_call D__law_b_rights (hr.mono (by decide)) pass_onD rfl (sa_cons (se_var 0) (sa_cons (se_var 3) sa_nil))) se_int) (sw_or1 (SimW.t (sw_and (st_val (se_call D__law_b_busy (hr.mono (by decide)) pass_onD rfl (sa_cons (se_var 0) (sa_cons (se_var 3) sa_nil)))) (sw_and1 (st_not (st_val (se_ix (se_var 2) (se_var 3)))))))))) (sb_one (ss_ret se_bl)) sb_nil)))
    (sb_one (ss_ret se_bl)))))
def b__law_b_bent_1 : MS := (mSeqS (mSet 6 (mOp oMod (mOp oAdd (mVar 4) (mVar 5)) (mVar 2)))
    (mSeqS (mSet 7 (mOp oMod (mOp oAdd (mVar 4) (mOp oMod (mOp oAdd (mVar 5) (mC (.int 1))) (mOp oAdd (mC (.int 2)) (mOp oMod (mOp oDiv (mVar 3) (mC (.int 4))) (mOp (oI fun a b=>.int (a - b)) (mVar 2) (mC (.int 1))))))) (mVar 2)))
    (mSetIx (mOp oIx (mVar 0) (mVar 6)) (mVar 7) (mOp oAdd (mOp oAdd (mOp oIx (mOp oIx (mVar 0) (mVar 6)) (mVar 7)) (mC (.int 1))) (mOp oMod (mOp oDiv (mVar 3) (mC (.int 16))) (mC (.int 3)))))))
def e__law_b_bent_1 : ME:=(mCall (cInts fun ns=>some (.int ns.sum)) (mCons (mVar 0) mNil))
def e__law_b_bent_2 : ME:=(mCall cTuple (mCons (mVar 0) mNil))
def m__law_b_bent : MS := (mSeqS (mSet 2 (mCall cLen (mCons (mVar 0) mNil)))
    (mSeqS (mSet 3 (mOp oDiv (mVar 1) (mC (.int 24))))
    (mSeqS (mIfS (tAndM (toB (mOp oEq (mOp oMod (mVar 1) (mC (.int 4))) (mC (.int 3)))) (toB (mOp (oI fun a b=>.bl (decide (b < a))) (mVar 2) (mC (.int 1))))) (mSeqS (mSet 4 (mOp oMod (mVar 3) (mVar 2)))
    (mFor (gaName 5) (mRange1 (mCons (mOp oAdd (mC (.int 2)) (mOp oMod (mOp oDiv (mVar 3) (mC (.int 4))) (mOp (oI fun a b=>.int (a - b)) (mVar 2) (mC (.int 1))))) mNil)) b__law_b_bent_1)) mNext)
    (mSeqS (mSet 6 (mOp oMod (mVar 3) (mVar 2)))
    (mSeqS (mSet 7 (mOp oMod (mOp oDiv (mVar 3) (mC (.int 4))) (mOp oAdd (mVar 2) (mC (.int 1)))))
    (mSeqS (mIfS (tAndM (toB (mOp oEq (mOp oMod (mOp oDiv (mVar 1) (mC (.int 4))) (mC (.int 6))) (mC (.int 5)))) (toB (mOp (oI fun a b=>.bl (decide (b < a))) (mOp oIx (mOp oIx (mVar 0) (mVar 6)) (mVar 7)) (mC (.int 0))))) (mSetIx (mOp oIx (mVar 0) (mVar 6)) (mVar 7) (mOp (oI fun a b=>.int (a - b)) (mOp oIx (mOp oIx (mVar 0) (mVar 6)) (mVar 7)) (mC (.int 1)))) mNext)
    (mSeqS (mIfS (toB (mOp oEq (mOp oMod (mOp oDiv (mVar 1) (mC (.int 4))) (mC (.int 12))) (mC (.int 4)))) (mSeqS (mSet 8 (mCall (cInts fun ns=>some (.int ns.sum)) (mCons (mVal (mCompN [none] (gaName 0) (mSeq (mVar 0)) mTrue e__law_b_bent_1)) mNil)))
    (mSetIx (mOp oIx (mVar 0) (mVar 6)) (mVar 6) (mOp oAdd (mOp oIx (mOp oIx (mVar 0) (mVar 6)) (mVar 6)) (mCall cMax (mCons (mC (.int 0)) (mCons (mOp (oI fun a b=>.int (a - b)) (mOp oAdd (mC (.int 299)) (mOp oMod (mOp oDiv (mVar 3) (mC (.int 32))) (mC (.int 8)))) (mVar 8)) mNil)))))) mNext)
    (mRet (mCall cTuple (mCons (mVal (mCompN [none] (gaName 0) (mSeq (mVar 0)) mTrue e__law_b_bent_2)) mNil))))))))))
def F__law_b_bent : FN:=callK m__law_b_bent 9
theorem sc__law_b_bent : FnScope ["rows", "draw", "n", "rest", "first", "k", "i", "j", "total"] ["rows", "draw"] (defScope s__law_b_bent):=⟨rfl,rfl,rfl,by decide +kernel,rfl,by decide +kernel,by decide +kernel⟩
theorem ok__law_b_bent {f : Addr} {fd : FuncData} (F : Fun K "_law_b_bent" "_law_b_bent" s__law_b_bent f fd) (T : Txt mg)   : FnOk P w K mg base (CXD P w) 1 f fd ["rows", "draw"] (spF mg 2 F__law_b_bent):=by
  refine fun_ok2K (k:=0) (m:=m__law_b_bent) F sc__law_b_bent rfl rfl rfl fun cdv A outer s H E hr=>?_
  exact (sb_cons (ss_set 2 sc__law_b_bent.nd (se_callB cs_len rfl T.b_len PySem.boot_len (sa_cons (se_var 0) sa_nil)))
    (sb_cons (ss_set 3 sc__law_b_bent.nd (se_op os_div (se_var 1) se_int))
    (sb_cons (ss_if (SimW.t (sw_and (st_cmp (os_eq hr.units) (se_op os_mod (se_var 1) se_int) se_int) (sw_and1 (st_cmp os_gt (se_var 2) se_int)))) (sb_cons (ss_set 4 sc__law_b_bent.nd (se_op os_mod (se_var 3) (se_var 2)))
    (sb_one (ss_for PassesOwn.leaving rfl (si_range1 rfl T.b_range (sa_cons (se_op os_add se_int (se_op os_mod (se_op os_div (se_var 3) se_int) (se_op os_sub (se_var 2) se_int))) sa_nil)) (sg_name (i:=5) sc__law_b_bent.nd) (sb_cons (ss_set 6 sc__law_b_bent.nd (se_op os_mod (se_op os_add (se_var 4) (se_var 5)) (se_var 2)))
    (sb_cons (ss_set 7 sc__law_b_bent.nd (se_op os_mod (se_op os_add (se_var 4) (se_op os_mod (se_op os_add (se_var 5) se_int) (se_op os_add se_int (se_op os_mod (se_op os_div (se_var 3) se_int) (se_op os_sub (se_var 2) se_int))))) (se_var 2)))
    (sb_one (ss_sub (se_op os_add (se_op os_add (se_ix (se_ix (se_var 0) (se_var 6)) (se_var 7)) se_int) (se_op os_mod (se_op os_div (se_var 3) se_int) se_int)) (se_ix (se_var 0) (se_var 6)) (se_var 7)))))))) sb_nil)
    (sb_cons (ss_set 6 sc__law_b_bent.nd (se_op os_mod (se_var 3) (se_var 2)))
    (sb_cons (ss_set 7 sc__law_b_bent.nd (se_op os_mod (se_op os_div (se_var 3) se_int) (se_op os_add (se_var 2) se_int)))
    (sb_cons (ss_if (SimW.t (sw_and (st_cmp (os_eq hr.units) (se_op os_mod (se_op os_div (se_var 1) se_int) se_int) se_int) (sw_and1 (st_cmp os_gt (se_ix (se_ix (se_var 0) (se_var 6)) (se_var 7)) se_int)))) (sb_one (ss_sub (se_op os_sub (se_ix (se_ix (se_var 0) (se_var 6)) (se_var 7)) se_int) (se_ix (se_var 0) (se_var 6)) (se_var 7))) sb_nil)
    (sb_cons (ss_if (st_cmp (os_eq hr.units) (se_op os_mod (se_op os_div (se_var 1) se_int) se_int) se_int) (sb_cons (ss_set 8 sc__law_b_bent.nd (se_callB (cs_sum rfl) rfl T.b_sum boot_sum (sa_cons (se_val (sn_comp [none] ["row"] rfl (si_seq (se_var 0)) (fun _ _ _ _ _=>(sg_name (i:=0) (show (["row"] : List Str).Nodup by decide +kernel))) (fun _ _ _ _ _=>(se_callB (cs_sum rfl) rfl T.b_sum boot_sum (sa_cons (se_var 0) sa_nil))) (fun _ _ _ _ _=>sts_nil) free_name)) sa_nil)))
    (sb_one (ss_sub (se_op os_add (se_ix (se_ix (se_var 0) (se_var 6)) (se_var 6)) (se_callB (cs_max rfl) rfl T.b_max boot_max (sa_cons se_int (sa_cons (se_op os_sub (se_op os_add se_int (se_op os_mod (se_op os_div (se_var 3) se_int) se_int)) (se_var 8)) sa_nil)))) (se_ix (se_var 0) (se_var 6)) (se_var 6)))) sb_nil)
    (sb_one (ss_ret (se_callT cs_tuple rfl T.b_tuple boot_tuple (sa_cons (se_val (sn_comp [none] ["row"] rfl (si_seq (se_var 0)) (fun _ _ _ _ _=>(sg_name (i:=0) (show (["row"] : List Str).Nodup by decide +kernel))) (fun _ _ _ _ _=>(se_callT cs_tuple rfl T.b_tuple boot_tuple (sa_cons (se_var 0) sa_nil))) (fun _ _ _ _ _=>sts_nil) free_name)) sa_nil)))))))))))
def e_law_1 : ME:=(mCall (cInts fun ns=>some (.int ns.sum)) (mCons (mVar 0) mNil))
def b_law_1 : MS := (mSeqS (mSet 6 (mCallF 1 F__law_b_told (mCons (mVar 4) mNil)))
    (mIfS (tNotM (toB (mCallF 1 F__law_b_comes (mCons (mVar 4) mNil)))) (mIfS (toB (mOp oNe (mVar 6) (mC (.str "table")))) (mRet (mC (.bl false))) mNext) (mIfS (toB (mOp (oI fun a b=>.bl (decide (b < a))) (mCall (cInts fun ns=>some (.int ns.sum)) (mCons (mVal (mCompN [none] (gaName 0) (mSeq (mVar 4)) mTrue e_law_1)) mNil)) (mC (.int 300)))) (mIfS (toB (mOp oNe (mVar 6) (mC (.str "many")))) (mRet (mC (.bl false))) mNext) (mSeqS (mIfS (tOrM (tNotM (toB (mIsI "list" (mVar 6)))) (tNotM (toB (mCallF 2 F__law_b_lead (mCons (mVar 4) (mCons (mVar 6) mNil)))))) (mRet (mC (.bl false))) mNext)
    (mExpr (mBM mtClear (mVar 6) mNil))))))
def e_law_2 : ME:=(mTrk (mListN (mVar 0)))
def e_law_3 : ME:=(mCall cTuple (mCons (mVar 0) mNil))
def e_law_4 : ME:=(mTrk (mListN (mVar 0)))
def e_law_5 : ME:=(mCall cTuple (mCons (mVar 0) mNil))
def m_law : MS := (mSeqS (mSet 1 (mCallF 2 F__law_b_draw (mCons (mVar 0) (mCons (mC (.int 0)) mNil))))
    (mSeqS (mSet 2 (mOp oAdd (mC (.int 1)) (mOp oMod (mVar 1) (mC (.int 4)))))
    (mSeqS (mIfS (toB (mOp oEq (mOp oMod (mOp oDiv (mVar 1) (mC (.int 64))) (mC (.int 6))) (mC (.int 5)))) (mSet 2 (mOp oAdd (mVar 2) (mC (.int 4)))) mNext)
    (mSeqS (mSet 3 (mCallF 5 F__law_b_grown (mCons (mVar 0) (mCons (mVar 2) (mCons (mC (.int 2)) (mCons (mOp oAdd (mC (.int 1)) (mOp oMod (mOp oDiv (mVar 1) (mC (.int 4))) (mC (.int 16)))) (mCons (mC (.int 4)) mNil)))))))
    (mSeqS (mSet 4 (mCallF 2 F__law_b_bent (mCons (mVar 3) (mCons (mCallF 2 F__law_b_draw (mCons (mVar 0) (mCons (mC (.int 1)) mNil))) mNil))))
    (mSeqS (mFor (gaName 5) (mRange1 (mCons (mC (.int 2)) mNil)) b_law_1)
    (mSeqS (mSet 7 (mTrk (mCompN [none] (gaName 0) (mSeq (mVar 4)) mTrue e_law_2)))
    (mSeqS (mSetIx (mOp oIx (mVar 7) (mC (.int 0))) (mC (.int 0)) (mOp oAdd (mOp oAdd (mOp oIx (mOp oIx (mVar 7) (mC (.int 0))) (mC (.int 0))) (mC (.int 301))) (mOp oMod (mOp oDiv (mVar 1) (mC (.int 64))) (mOp oPow (mC (.int 10)) (mC (.int 20))))))
    (mSeqS (mIfS (tAndM (toB (mCallF 1 F__law_b_comes (mCons (mVar 4) mNil))) (toB (mOp oNe (mCallF 1 F__law_b_told (mCons (mCall cTuple (mCons (mVal (mCompN [none] (gaName 0) (mSeq (mVar 7)) mTrue e_law_3)) mNil)) mNil)) (mC (.str "many"))))) (mRet (mC (.bl false))) mNext)
    (mSeqS (mSet 7 (mTrk (mCompN [none] (gaName 0) (mSeq (mVar 4)) mTrue e_law_4)))
    (mSeqS (mSetIx (mOp oIx (mVar 7) (mC (.int 0))) (mVar 2) (mOp oAdd (mOp oAdd (mOp oIx (mOp oIx (mVar 7) (mC (.int 0))) (mVar 2)) (mC (.int 400))) (mOp oMod (mOp oDiv (mVar 1) (mC (.int 64))) (mOp oPow (mC (.int 10)) (mC (.int 20))))))
    (mRet (mOp oEq (mCallF 1 F__law_b_told (mCons (mCall cTuple (mCons (mVal (mCompN [none] (gaName 0) (mSeq (mVar 7)) mTrue e_law_5)) mNil)) mNil)) (mC (.str "table")))))))))))))))
def F_law : FN:=callF m_law 8
theorem sc_law : FnScope ["script", "draw", "n", "rows", "table", "turn", "found", "great"] ["script"] (defScope s_law):=⟨rfl,rfl,rfl,by decide +kernel,rfl,by decide +kernel,by decide +kernel⟩
theorem ok_law {f : Addr} {fd : FuncData} (F : Fun K "law" "law" s_law f fd) (T : Txt mg)  (D__law_b_draw : DefS P w K mg base 1 "_law_b_draw" 2 F__law_b_draw) (D__law_b_grown : DefS P w K mg base 2 "_law_b_grown" 5 F__law_b_grown) (D__law_b_bent : DefS P w K mg base 1 "_law_b_bent" 2 F__law_b_bent) (D__law_b_told : DefS P w K mg base 9 "_law_b_told" 1 F__law_b_told) (D__law_b_comes : DefS P w K mg base 2 "_law_b_comes" 1 F__law_b_comes) (D__law_b_lead : DefS P w K mg base 3 "_law_b_lead" 2 F__law_b_lead) : FnOk P w K mg base (CXD P w) 10 f fd ["script"] (spF mg 1 F_law):=by
  refine fun_ok2 (k:=9) (m:=m_law) F sc_law rfl rfl rfl fun cdv A outer s H E hr=>?_
  exact (sb_cons (ss_set 1 sc_law.nd (se_call D__law_b_draw (hr.mono (by decide)) pass_onD rfl (sa_cons (se_var 0) (sa_cons se_int sa_nil))))
    (sb_cons (ss_set 2 sc_law.nd (se_op os_add se_int (se_op os_mod (se_var 1) se_int)))
    (sb_cons (ss_if (st_cmp (os_eq hr.units) (se_op os_mod (se_op os_div (se_var 1) se_int) se_int) se_int) (sb_one (ss_set 2 sc_law.nd (se_op os_add (se_var 2) se_int))) sb_nil)
    (sb_cons (ss_set 3 sc_law.nd (se_call D__law_b_grown (hr.mono (by decide)) pass_onD rfl (sa_cons (se_var 0) (sa_cons (se_var 2) (sa_cons se_int (sa_cons (se_op os_add se_int (se_op os_mod (se_op os_div (se_var 1) se_int) se_int)) (sa_cons se_int sa_nil)))))))
    (sb_cons (ss_set 4 sc_law.nd (se_call D__law_b_bent (hr.mono (by decide)) pass_onD rfl (sa_cons (se_var 3) (sa_cons (se_call D__law_b_draw (hr.mono (by decide)) pass_onD rfl (sa_cons (se_var 0) (sa_cons se_int sa_nil))) sa_nil))))
    (sb_cons (ss_for PassesOwn.leaving rfl (si_range1 rfl T.b_range (sa_cons se_int sa_nil)) (sg_name (i:=5) sc_law.nd) (sb_cons (ss_set 6 sc_law.nd (se_call D__law_b_told (hr.mono (by decide)) pass_onD rfl (sa_cons (se_var 4) sa_nil)))
    (sb_one (ss_if (st_not (st_val (se_call D__law_b_comes (hr.mono (by decide)) pass_onD rfl (sa_cons (se_var 4) sa_nil)))) (sb_one (ss_if (st_cmp (os_ne hr.units) (se_var 6) se_str) (sb_one (ss_ret se_bl)) sb_nil)) (sb_one (ss_if (st_cmp os_gt (se_callB (cs_sum rfl) rfl T.b_sum boot_sum (sa_cons (se_val (sn_comp [none] ["row"] rfl (si_seq (se_var 4)) (fun _ _ _ _ _=>(sg_name (i:=0) (show (["row"] : List Str).Nodup by decide +kernel))) (fun _ _ _ _ _=>(se_callB (cs_sum rfl) rfl T.b_sum boot_sum (sa_cons (se_var 0) sa_nil))) (fun _ _ _ _ _=>sts_nil) free_name)) sa_nil)) se_int) (sb_one (ss_if (st_cmp (os_ne hr.units) (se_var 6) se_str) (sb_one (ss_ret se_bl)) sb_nil)) (sb_cons (ss_if (SimW.t (sw_or (st_not (st_val (se_isi (T := "list") (by decide) (se_var 6) rfl T.b_isinstance rfl T.b_list boot_list))) (sw_or1 (st_not (st_val (se_call D__law_b_lead (hr.mono (by decide)) pass_onD rfl (sa_cons (se_var 4) (sa_cons (se_var 6) sa_nil)))))))) (sb_one (ss_ret se_bl)) sb_nil)
    (sb_one (ss_expr (se_bm0 PySem.F.plainAttrs_list PySem.F.slot_list_clear PySem.F.type_list_clear ms_clear (se_var 6)))))))))))
    (sb_cons (by first | exact ss_compT [none] ["row"] 7 sc_law.nd rfl (si_seq (se_var 4)) (fun _ _ _ _ _=>(sg_name (i:=0) (show (["row"] : List Str).Nodup by decide +kernel))) (fun _ _ _ _ _=>(se_trk (sn_list (se_var 0) rfl T.b_list))) (fun _ _ _ _ _=>sts_nil) free_name | exact ss_set 7 sc_law.nd (se_trk (sn_comp [none] ["row"] rfl (si_seq (se_var 4)) (fun _ _ _ _ _=>(sg_name (i:=0) (show (["row"] : List Str).Nodup by decide +kernel))) (fun _ _ _ _ _=>(se_trk (sn_list (se_var 0) rfl T.b_list))) (fun _ _ _ _ _=>sts_nil) free_name)))
    (sb_cons (ss_sub (se_op os_add (se_op os_add (se_ix (se_ix (se_var 7) se_int) se_int) se_int) (se_op os_mod (se_op os_div (se_var 1) se_int) (se_op os_pow se_int se_int))) (se_ix (se_var 7) se_int) se_int)
    (sb_cons (ss_if (SimW.t (sw_and (st_val (se_call D__law_b_comes (hr.mono (by decide)) pass_onD rfl (sa_cons (se_var 4) sa_nil))) (sw_and1 (st_cmp (os_ne hr.units) (se_call D__law_b_told (hr.mono (by decide)) pass_onD rfl (sa_cons (se_callT cs_tuple rfl T.b_tuple boot_tuple (sa_cons (se_val (sn_comp [none] ["row"] rfl (si_seq (se_var 7)) (fun _ _ _ _ _=>(sg_name (i:=0) (show (["row"] : List Str).Nodup by decide +kernel))) (fun _ _ _ _ _=>(se_callT cs_tuple rfl T.b_tuple boot_tuple (sa_cons (se_var 0) sa_nil))) (fun _ _ _ _ _=>sts_nil) free_name)) sa_nil)) sa_nil)) se_str)))) (sb_one (ss_ret se_bl)) sb_nil)
    (sb_cons (by first | exact ss_compT [none] ["row"] 7 sc_law.nd rfl (si_seq (se_var 4)) (fun _ _ _ _ _=>(sg_name (i:=0) (show (["row"] : List Str).Nodup by decide +kernel))) (fun _ _ _ _ _=>(se_trk (sn_list (se_var 0) rfl T.b_list))) (fun _ _ _ _ _=>sts_nil) free_name | exact ss_set 7 sc_law.nd (se_trk (sn_comp [none] ["row"] rfl (si_seq (se_var 4)) (fun _ _ _ _ _=>(sg_name (i:=0) (show (["row"] : List Str).Nodup by decide +kernel))) (fun _ _ _ _ _=>(se_trk (sn_list (se_var 0) rfl T.b_list))) (fun _ _ _ _ _=>sts_nil) free_name)))
    (sb_cons (ss_sub (se_op os_add (se_op os_add (se_ix (se_ix (se_var 7) se_int) (se_var 2)) se_int) (se_op os_mod (se_op os_div (se_var 1) se_int) (se_op os_pow se_int se_int))) (se_ix (se_var 7) se_int) (se_var 2))
    (sb_one (ss_ret (se_cmp (os_eq hr.units) (se_call D__law_b_told (hr.mono (by decide)) pass_onD rfl (sa_cons (se_callT cs_tuple rfl T.b_tuple boot_tuple (sa_cons (se_val (sn_comp [none] ["row"] rfl (si_seq (se_var 7)) (fun _ _ _ _ _=>(sg_name (i:=0) (show (["row"] : List Str).Nodup by decide +kernel))) (fun _ _ _ _ _=>(se_callT cs_tuple rfl T.b_tuple boot_tuple (sa_cons (se_var 0) sa_nil))) (fun _ _ _ _ _=>sts_nil) free_name)) sa_nil)) sa_nil)) se_str))))))))))))))
end
end Lw
namespace Lw
open PySem PySem.Spec L2 Sm
theorem emod_lt (a : Int) {b : Int} (h : 0 < b) : 0 <= a % b /\ a % b < b:=⟨Int.emod_nonneg a (by omega),Int.emod_lt_of_pos a h⟩
def rowV (r : List Int) : PV:=.tup (r.map .int)
def tabV (tb : List (List Int)) : PV:=.tup (tb.map rowV)
theorem all_id {α : Type} (xs : List α) (p : α -> Bool) : (xs.map p).all id = xs.all p:=by
  rw [List.all_map]; rfl
structure Wt' (n : Nat) (tb : List (List Int)) : Prop where
  len : tb.length = n
  row : ∀ r ∈ tb,r.length = n + 1
  nn : ∀ r ∈ tb,∀ x ∈ r,(0 : Int) <= x
  n1 : 1 <= n
  n8 : n <= 8
def upto (n : Nat) (f : Nat -> Int) : Int:=((List.range n).map f).sum
theorem upto_succ (n : Nat) (f : Nat -> Int) : upto (n + 1) f = upto n f + f n:=by
  unfold upto
  rw [List.range_succ,List.map_append,List.sum_append]
  simp
theorem upto_congr {n : Nat} {f g : Nat -> Int} (h : ∀ i,i < n -> f i = g i) : upto n f = upto n g:=by
  induction n with
  | zero=>rfl
  | succ n ih=>rw [upto_succ,upto_succ,ih fun i hi=>h i (by omega),h n (by omega)]
theorem upto_add (n : Nat) (f g : Nat -> Int) : upto n (fun i=>f i + g i) = upto n f + upto n g:=by
  induction n with
  | zero=>rfl
  | succ n ih=>rw [upto_succ,upto_succ,upto_succ,ih]; omega
theorem upto_sub (n : Nat) (f g : Nat -> Int) : upto n (fun i=>f i - g i) = upto n f - upto n g:=by
  induction n with
  | zero=>rfl
  | succ n ih=>rw [upto_succ,upto_succ,upto_succ,ih]; omega
theorem upto_zero (n : Nat) : upto n (fun _=>0) = 0:=by
  induction n with
  | zero=>rfl
  | succ n ih=>rw [upto_succ,ih]; rfl
theorem upto_swap (n m : Nat) (f : Nat -> Nat -> Int) : upto n (fun i=>upto m (f i)) = upto m (fun j=>upto n fun i=>f i j):=by
  induction n with
  | zero=>exact (upto_zero m).symm
  | succ n ih=>
    rw [upto_succ,ih,<- upto_add]
    exact upto_congr fun i _=>(upto_succ _ _).symm
theorem upto_nonneg {n : Nat} {f : Nat -> Int} (h : ∀ i,i < n -> 0 <= f i) : 0 <= upto n f:=by
  induction n with
  | zero=>exact Int.le_refl _
  | succ n ih=>rw [upto_succ]; have:=ih fun i hi=>h i (by omega); have:=h n (by omega); omega
theorem map_getD {α β : Type} (l : List α) (d : α) (f : α -> β) : l.map f = (List.range l.length).map fun i=>f (l.getD i d):=by
  refine List.ext_getElem? fun i=>?_
  rw [List.getElem?_map,List.getElem?_map]
  by_cases hi : i < l.length
  · rw [List.getElem?_range hi,getD_some hi d]; rfl
  · rw [List.getElem?_eq_none (by omega),List.getElem?_eq_none (by rw [List.length_range]; omega)]; rfl
theorem zipIdx_map {α β : Type} (l : List α) (d : α) (f : α × Nat -> β) : l.zipIdx.map f = (List.range l.length).map fun i=>f (l.getD i d,i):=by
  refine List.ext_getElem? fun i=>?_
  rw [List.getElem?_map,List.getElem?_map,List.getElem?_zipIdx]
  by_cases hi : i < l.length
  · rw [List.getElem?_range hi,getD_some hi d]; simp
  · rw [List.getElem?_eq_none (by omega),List.getElem?_eq_none (by rw [List.length_range]; omega)]; rfl
theorem sum_upto (r : List Int) : r.sum = upto r.length fun j=>r.getD j 0:=by
  have:=map_getD r 0 id
  rw [List.map_id] at this
  rw [upto]
  conv=>lhs; rw [this]
  rfl
def ent (tb : List (List Int)) (i j : Nat) : Int:=(tb.getD i []).getD j 0
def Sz (n : Nat) (tb : List (List Int)) : Prop:=tb.length = n /\ ∀ r ∈ tb,r.length = n + 1
theorem Wt'.sz {n : Nat} {tb : List (List Int)} (w : Wt' n tb) : Sz n tb:=⟨w.len,w.row⟩
theorem Sz.row {n i : Nat} {tb : List (List Int)} (z : Sz n tb) (hi : i < n) : tb[i]? = some (tb.getD i []) /\ (tb.getD i []).length = n + 1:=by
  have e:=getD_some (show i < tb.length by rw [z.1]; exact hi) []
  exact ⟨e,z.2 _ (List.mem_of_getElem? e)⟩
theorem Sz.cell {n i j : Nat} {tb : List (List Int)} (z : Sz n tb) (hi : i < n) (hj : j <= n) : (tb.getD i [])[j]? = some (ent tb i j):=getD_some (by rw [(z.row hi).2]; omega) 0
theorem tab_ext {n : Nat} {t1 t2 : List (List Int)} (z1 : Sz n t1) (z2 : Sz n t2) (h : ∀ i j,i < n -> j <= n -> ent t1 i j = ent t2 i j) : t1 = t2:=by
  refine List.ext_getElem? fun i=>?_
  by_cases hi : i < n
  · rw [(z1.row hi).1,(z2.row hi).1]
    congr 1
    refine List.ext_getElem? fun j=>?_
    by_cases hj : j <= n
    · rw [z1.cell hi hj,z2.cell hi hj,h i j hi hj]
    · rw [List.getElem?_eq_none (by rw [(z1.row hi).2]; omega),List.getElem?_eq_none (by rw [(z2.row hi).2]; omega)]
  · rw [List.getElem?_eq_none (by rw [z1.1]; omega),List.getElem?_eq_none (by rw [z2.1]; omega)]
theorem Wt'.ent_nn {n i j : Nat} {tb : List (List Int)} (w : Wt' n tb) (hi : i < n) (hj : j <= n) : 0 <= ent tb i j:=w.nn _ (List.mem_of_getElem? (w.sz.row hi).1) _ (List.mem_of_getElem? (w.sz.cell hi hj))
theorem Wt'.of_ent {n : Nat} {tb : List (List Int)} (z : Sz n tb) (h1 : 1 <= n) (h8 : n <= 8) (h : ∀ i j,i < n -> j <= n -> 0 <= ent tb i j) : Wt' n tb:=by
  refine ⟨z.1,z.2,fun r hr x hx=>?_,h1,h8⟩
  obtain ⟨i,hi,e⟩:=List.mem_iff_getElem.mp hr
  obtain ⟨j,hj,e2⟩:=List.mem_iff_getElem.mp hx
  have hl:=z.2 r hr
  have:=h i j (by rw [<- z.1]; exact hi) (by omega)
  have e3 : tb.getD i [] = r:=by rw [List.getD,List.getElem?_eq_getElem hi,e]; rfl
  have e4 : r.getD j 0 = x:=by rw [List.getD,List.getElem?_eq_getElem hj,e2]; rfl
  unfold ent at this
  rw [e3,e4] at this
  exact this
theorem is_whole_int (i : Int) (st : Store) : F_is_whole [.int i] st = .ok (.bl true) st:=by
  simp [F_is_whole,callF,m_is_whole,isI,tyN]
theorem is_between_ok (a b c : Int) (st : Store) : F_is_between [.int a,.int b,.int c] st = .ok (.bl (decide (b <= a) && decide (a <= c))) st:=by
  by_cases h : b <= a <;> simp [F_is_between,callF,m_is_between,is_whole_int,h]
theorem is_house_ok {V : PV} {n : Nat} {st : Store} (hV : cLen st [V] = .ok (.int n) st) (i : Int) : F_is_house [V,.int i] st = .ok (.bl (decide (0 <= i) && decide (i < n))) st:=by
  have e : decide (i <= (n : Int) - 1) = decide (i < (n : Int)):=by
    rw [decide_eq_decide]; omega
  simp [F_is_house,callF,m_is_house,hV,is_between_ok,e]
theorem is_house_yes {V : PV} {n i : Nat} {st : Store} (hV : cLen st [V] = .ok (.int n) st) (hi : i < n) : F_is_house [V,.int i] st = .ok (.bl true) st:=by
  rw [is_house_ok hV]
  simp; omega
def intV (k : Nat) : PV:=.int (k : Int)
theorem fz_ints {n r : Nat} {S : Store} {hs : List Int} (hr : n <= r) (h : S[r]? = some (.lst (hs.map .int))) : fz n S 16 (.ref r) = some (.lst (hs.map .int)):=by
  have hg : good 12 (.lst (hs.map .int)) = true:=by simp [good]
  have:=fz_good (n:=n) (st:=S) (k:=16) hg (by decide)
  rw [fz,if_neg (by omega),h]
  simpa [fz] using this
def rightsF (tb : List (List Int)) (h : Nat) : Int:=upto tb.length (fun o=>ent tb o h) - ((tb.getD h []).sum - ent tb h h)
theorem rightsF_eq {n h : Nat} {tb : List (List Int)} (z : Sz n tb) (hh : h < n) : rightsF tb h = upto n (fun o=>ent tb o h) - (upto n (fun j=>ent tb h j) + ent tb h n - ent tb h h):=by
  unfold rightsF
  rw [z.1,sum_upto (tb.getD h []),(z.row hh).2,upto_succ]
  rfl
theorem rights_ok {n h : Nat} {tb : List (List Int)} (z : Sz n tb) (hn : n <= 100) (hh : h < n) (st : Store) : F_rights [tabV tb,.int h] st = .ok (.int (rightsF tb h)) st:=by
  have hH:=is_house_yes (V:=tabV tb) (n:=n) (i:=h) (st:=st) (by simp [tabV,z.1]) hh
  have hc : compG (gaName 0) mTrue e_rights_1 [] (capG [none,some 1] [some (tabV tb),some (.int h),none,none,none]) (tb.map rowV) st = .ok (tb.map fun r=>.int (r.getD h 0)) st:=by
    refine compG_on _ _ (by simp) fun r hr=>⟨_,rfl,?_⟩
    have e:=atI_get (getD_some (show h < r.length by rw [z.2 r hr]; omega) 0)
    simp [capG,e_rights_1,rowV,atI_map,e]
  have e1:=atI_get (z.row hh).1
  have e2:=atI_get (z.cell hh (Nat.le_of_lt hh))
  have hs : (tb.map fun r=>r.getD h 0).sum = upto n fun o=>ent tb o h:=by
    rw [map_getD tb [] fun r=>r.getD h 0,z.1]; rfl
  have hl : tb.length <= 1000000:=by rw [z.1]; omega
  unfold rightsF
  rw [z.1,<- hs]
  obtain ⟨r,hr⟩ : ∃ r,tb.getD h [] = r:=⟨_,rfl⟩
  obtain ⟨x,hx⟩ : ∃ x,ent tb h h = x:=⟨_,rfl⟩
  rw [hr] at e1 e2 ⊢
  rw [hx] at e2 ⊢
  obtain ⟨q,hq⟩ : ∃ q,(tb.map fun r=>r.getD h 0) = q:=⟨_,rfl⟩
  have hq2 : (tb.map fun r=>PV.int (r.getD h 0)) = q.map .int:=by rw [<- hq,List.map_map]; rfl
  rw [hq2] at hc
  rw [hq]
  unfold tabV at hH hc ⊢
  simp [F_rights,callF,m_rights,hH,hc,hl,lim_eq,atI_map,e1,rowV,e2]
theorem cell_ix {n i j : Nat} {tb : List (List Int)} (z : Sz n tb) (hi : i < n) (hj : j <= n) (st : Store) : oIx st (tabV tb) (.int i) = .ok (rowV (tb.getD i [])) st /\ oIx st (rowV (tb.getD i [])) (.int j) = .ok (.int (ent tb i j)) st:=by
  constructor
  · unfold tabV; rw [oIx_tup,atI_map,atI_get (z.row hi).1]; rfl
  · unfold rowV; rw [oIx_tup,atI_map,atI_get (z.cell hi hj)]; rfl
def madeF (tb : List (List Int)) (h : Nat) : Bool:=decide (0 < ent tb h h)
theorem made_ok {n h : Nat} {tb : List (List Int)} (z : Sz n tb) (hh : h < n) (st : Store) : F_made_some [tabV tb,.int h] st = .ok (.bl (madeF tb h)) st:=by
  obtain ⟨c1,c2⟩:=cell_ix z hh (Nat.le_of_lt hh) st
  unfold madeF
  generalize ent tb h h = x at *
  generalize tb.getD h [] = r at *
  simp [F_made_some,callF,m_made_some,c1,c2]
def busyF (tb : List (List Int)) (h : Nat) : Bool:=decide (ent tb h h < (tb.getD h []).sum)
theorem busy_ok {n h : Nat} {tb : List (List Int)} (z : Sz n tb) (hh : h < n) (st : Store) : F_lent_or_used_some [tabV tb,.int h] st = .ok (.bl (busyF tb h)) st:=by
  obtain ⟨c1,c2⟩:=cell_ix z hh (Nat.le_of_lt hh) st
  unfold busyF
  generalize ent tb h h = x at *
  generalize tb.getD h [] = r at *
  have c3 : cInts (fun ns=>some (.int ns.sum)) st [rowV r] = .ok (.int r.sum) st:=by unfold rowV; rw [cInts_tup]; rfl
  simp [F_lent_or_used_some,callF,m_lent_or_used_some,c1,c2,c3]
def lentF (tb : List (List Int)) (h : Nat) (ls : List Nat) : Bool:=ls.any fun o=>decide (o ≠ h) && decide (0 < ent tb o h)
theorem any_id {α : Type} (xs : List α) (p : α -> Bool) : (xs.map p).any id = xs.any p:=by
  rw [List.any_map]; rfl
theorem lent_ok {n h : Nat} {tb : List (List Int)} (z : Sz n tb) (hh : h < n) {ls : List Nat} (hl : ∀ o ∈ ls,o < n) (hll : ls.length <= 1000) {V : PV} {st : Store} (hV : ListAt st V (ls.map intV)) : F_was_lent_some [tabV tb,.int h,V] st = .ok (.bl (lentF tb h ls)) st:=by
  obtain ⟨w,hsrc,hw⟩:=hV.src
  have hc : compG (gaName 0) t_was_lent_some_1 e_was_lent_some_1 w (capG [none,some 1,some 0] [some (tabV tb),some (.int h),some V]) (ls.map intV) st = .ok ((ls.filter fun o=>decide (o ≠ h)).map fun o=>.bl (decide (0 < ent tb o h))) st:=by
    refine compG_onF _ _ _ hw fun o ho=>⟨_,rfl,?_,fun ht=>?_⟩
    · simp [capG,t_was_lent_some_1,intV]
      by_cases e : o = h
      · simp [e]
      · have : ¬ ((o : Int) = h):=by omega
        simp [e,this]
    · obtain ⟨c1,c2⟩:=cell_ix z (hl o ho) (Nat.le_of_lt hh) st
      generalize ent tb o h = x at *
      generalize tb.getD o [] = r at *
      simp [capG,e_was_lent_some_1,intV,c1,c2]
  have hll' : (ls.map intV).length <= 1000000:=by rw [List.length_map]; omega
  have hlf : lentF tb h ls = ((ls.filter fun o=>decide (o ≠ h)).map fun o=>decide (0 < ent tb o h)).any id:=by
    rw [any_id,List.any_filter]; rfl
  rw [hlf]
  generalize ls.map intV = ov at *
  generalize ls.filter (fun o=>decide (o ≠ h)) = fs at *
  simp [F_was_lent_some,callF,m_was_lent_some,hsrc,hll',lim_eq,hc,-List.any_map]
def rootsF (tb : List (List Int)) (h : Nat) (ls : List Nat) : Bool:=madeF tb h || lentF tb h ls
theorem root_ok {n h : Nat} {tb : List (List Int)} (z : Sz n tb) (hh : h < n) {ls : List Nat} (hl : ∀ o ∈ ls,o < n) (hll : ls.length <= 1000) {V : PV} {st : Store} (hV : ListAt st V (ls.map intV)) : F_has_root [tabV tb,.int h,V] st = .ok (.bl (rootsF tb h ls)) st:=by
  have h1:=made_ok z hh st
  have h2:=lent_ok z hh hl hll hV
  unfold rootsF
  cases hm : madeF tb h with
  | true=>rw [hm] at h1; simp [F_has_root,callF,m_has_root,h1]
  | false=>rw [hm] at h1; simp [F_has_root,callF,m_has_root,h1,h2]
theorem in_ints (hs : List Int) (x : Int) : ((hs.map PV.int).any fun y=>peq y (.int x)) = decide (x ∈ hs):=by
  rw [List.any_map,Bool.eq_iff_iff,List.any_eq_true,decide_eq_true_iff]
  constructor
  · rintro ⟨y,hy,e⟩
    have : y = x:=by simpa [peq] using e
    rw [<- this]; exact hy
  · intro h
    exact ⟨x,h,by simp [peq]⟩
theorem in_ok {hs : List Int} {V : PV} {st : Store} (hV : ListAt st V (hs.map .int)) (x : Int) (b : Bool) : oIn b st (.int x) V = .ok (.bl (decide (x ∈ hs) != b)) st:=by
  have hq : seqOf st V = some (hs.map .int):=by
    rcases hV with rfl | rfl | ⟨i,rfl,e⟩
    · rfl
    · rfl
    · rw [seqOf_r,e]
  have hd : der st (.int x) = .int x:=rfl
  have g1 : good dep (.int x) = true:=rfl
  have g2 : (hs.map PV.int).all (good dep) = true:=by simp [good,dep]
  unfold oIn
  rw [hq,hd]
  simp only [g1,g2,and_self,if_true,in_ints]
def busyR (n : Nat) (tb : List (List Int)) (h : Nat) : Bool:=(List.range (n + 1)).any fun j=>decide (j ≠ h) && decide (0 < ent tb h j)
theorem upto_le {n j : Nat} {f : Nat -> Int} (hf : ∀ i,i < n -> 0 <= f i) (hj : j < n) : f j <= upto n f:=by
  induction n with
  | zero=>exact absurd hj (Nat.not_lt_zero _)
  | succ n ih=>
    rw [upto_succ]
    have hn0:=hf n (Nat.lt_succ_self n)
    by_cases e : j = n
    · subst e
      have:=upto_nonneg (f:=f) (n:=j) fun i hi=>hf i (Nat.lt_succ_of_lt hi)
      omega
    · have:=ih (fun i hi=>hf i (Nat.lt_succ_of_lt hi)) (by omega)
      omega
theorem upto_but {n h : Nat} (f : Nat -> Int) (hh : h < n) : upto n f = f h + upto n fun j=>if j ≠ h then f j else 0:=by
  induction n with
  | zero=>exact absurd hh (Nat.not_lt_zero _)
  | succ n ih=>
    rw [upto_succ,upto_succ]
    by_cases e : n = h
    · subst e
      rw [if_neg (by simp),upto_congr (f:=f) (g:=fun j=>if j ≠ n then f j else 0) fun i hi=>by rw [if_pos (by omega)]]
      omega
    · rw [if_pos e,ih (by omega)]
      omega
theorem upto_pos {n h : Nat} {f : Nat -> Int} (hf : ∀ i,i < n -> 0 <= f i) (hh : h < n) : f h < upto n f <-> ∃ j,j < n /\ j ≠ h /\ 0 < f j:=by
  have e:=upto_but f hh
  have hg : ∀ i,i < n -> 0 <= (fun j=>if j ≠ h then f j else 0) i:=fun i hi=>by
    show 0 <= if i ≠ h then f i else 0
    split
    · exact hf i hi
    · exact Int.le_refl _
  constructor
  · intro q
    refine Classical.byContradiction fun hno=>?_
    have : upto n (fun j=>if j ≠ h then f j else 0) = upto n fun _=>0:=upto_congr fun i hi=>by
      by_cases ei : i = h
      · rw [if_neg (by simp [ei])]
      · rw [if_pos ei]
        have h1:=hf i hi
        have h2 : ¬ 0 < f i:=fun q=>hno ⟨i,hi,ei,q⟩
        omega
    rw [upto_zero] at this
    omega
  · rintro ⟨j,hj,hne,hp⟩
    have:=upto_le hg hj
    simp only [if_pos hne] at this
    omega
theorem busy_eq {n h : Nat} {tb : List (List Int)} (w : Wt' n tb) (hh : h < n) : busyR n tb h = busyF tb h:=by
  have hs : (tb.getD h []).sum = upto (n + 1) fun j=>ent tb h j:=by
    rw [sum_upto,(w.sz.row hh).2]; rfl
  have hp:=(upto_pos (n:=n + 1) (h:=h) (f:=fun j=>ent tb h j) (fun i hi=>w.ent_nn hh (by omega)) (by omega))
  unfold busyR busyF
  rw [hs,Bool.eq_iff_iff,List.any_eq_true,decide_eq_true_iff,hp]
  constructor
  · rintro ⟨j,hj,q⟩
    simp at q
    exact ⟨j,List.mem_range.mp hj,q.1,q.2⟩
  · rintro ⟨j,hj,a,b⟩
    exact ⟨j,List.mem_range.mpr hj,by simp [a,b]⟩
theorem modN (x : Int) {n : Nat} (h : 1 <= n) : ∃ k : Nat,k < n /\ x % (n : Int) = (k : Int):=by
  have:=emod_lt x (b:=(n : Int)) (by omega)
  exact ⟨(x % (n : Int)).toNat,by omega,by omega⟩
def kn3 (tb : List (List Int)) (i : Nat) (bs : List Bool) (j : Nat) : List Bool:=if bs.getD i false = true /\ i ≠ j /\ 0 < ent tb i j then bs.set j true else bs
def kn2 (n : Nat) (tb : List (List Int)) (bs : List Bool) (i : Nat) : List Bool:=(List.range n).foldl (kn3 tb i) bs
def kn1 (n : Nat) (tb : List (List Int)) (bs : List Bool) (_ : Nat) : List Bool:=(List.range n).foldl (kn2 n tb) bs
def knInit (n : Nat) (tb : List (List Int)) : List Bool:=(List.range n).map (madeF tb)
def knownF (n : Nat) (tb : List (List Int)) : List Bool:=(List.range n).foldl (kn1 n tb) (knInit n tb)
theorem fold_len {α β : Type} {f : List α -> β -> List α} (h : ∀ bs x,(f bs x).length = bs.length) : ∀ (xs : List β) (bs : List α),(xs.foldl f bs).length = bs.length
  | [],_=>rfl
  | x :: xs,bs=>by rw [List.foldl_cons,fold_len h xs,h]
theorem kn3_len (tb : List (List Int)) (i : Nat) (bs : List Bool) (j : Nat) : (kn3 tb i bs j).length = bs.length:=by
  unfold kn3; split <;> simp
theorem kn2_len (n : Nat) (tb : List (List Int)) (bs : List Bool) (i : Nat) : (kn2 n tb bs i).length = bs.length:=fold_len (kn3_len tb i) _ _
theorem kn1_len (n : Nat) (tb : List (List Int)) (bs : List Bool) (t : Nat) : (kn1 n tb bs t).length = bs.length:=fold_len (kn2_len n tb) _ _
theorem knownF_len (n : Nat) (tb : List (List Int)) : (knownF n tb).length = n:=by
  unfold knownF
  rw [fold_len (kn1_len n tb)]
  simp [knInit]
def knS (st : Store) (bs : List Bool) : Store:=st ++ [Cell.lst (bs.map .bl)]
theorem knS_at (st : Store) (bs : List Bool) : (knS st bs)[st.length]? = some (.lst (bs.map .bl)):=by unfold knS; simp
theorem knS_ix {st : Store} {bs : List Bool} {i : Nat} (hi : i < bs.length) : oIx (knS st bs) (.ref st.length) (.int i) = .ok (.bl (bs.getD i false)) (knS st bs):=by
  have : ListAt (knS st bs) (.ref st.length) (bs.map .bl):=.inr (.inr ⟨_,rfl,knS_at st bs⟩)
  rw [this.ix,atI_map,atI_get (getD_some hi false)]; rfl
theorem knS_set {st : Store} {bs : List Bool} {i : Nat} (hi : i < bs.length) (b : Bool) : setIx (knS st bs) (.ref st.length) (.int i) (.bl b) = some (knS st (bs.set i b)):=by
  unfold setIx
  simp only [knS_at,List.length_map,ixN_nat hi,Option.map_some]
  unfold knS
  rw [List.map_set]
  simp
theorem kn_l3 (r : List (Option PV)) {n i : Nat} {tb : List (List Int)} (z : Sz n tb) (hi : i < n) (st : Store) (a c : Option PV) (bs : List Bool) (hl : bs.length = n) : ∃ c',forG (gaName 5) b__law_b_known_3 [] (rangeI 0 n) (some (tabV tb) :: some (.int n) :: some (.ref st.length) :: a :: some (.int i) :: c :: r) (knS st bs) = .nx (some (tabV tb) :: some (.int n) :: some (.ref st.length) :: a :: some (.int i) :: c' :: r) (knS st (kn2 n tb bs i)):=by
  obtain ⟨Γ',st',e,c',rfl,rfl⟩:=forG_invL (g:=fun k : Nat=>PV.int (k : Int)) (xs:=List.range n) (ga:=gaName 5) (body:=b__law_b_known_3) (w:=[]) (Γ:=(some (tabV tb) :: some (.int n) :: some (.ref st.length) :: a :: some (.int i) :: c :: r)) (st:=knS st bs)
    (fun pre Γ st'=>∃ c',Γ = (some (tabV tb) :: some (.int n) :: some (.ref st.length) :: a :: some (.int i) :: c' :: r) /\ st' = knS st (pre.foldl (kn3 tb i) bs))
    (fun _ _ _ _=>by simp)
    (fun pre j post Γ st' hx ⟨c',e1,e2⟩=>by
      subst e1; subst e2
      have hj : j < n:=List.mem_range.mp (by rw [hx]; simp)
      refine ⟨_,rfl,(some (tabV tb) :: some (.int n) :: some (.ref st.length) :: a :: some (.int i) :: some (.int j) :: r),_,?_,_,rfl,rfl⟩
      rw [List.foldl_append,List.foldl_cons,List.foldl_nil]
      have hq : (pre.foldl (kn3 tb i) bs).length = n:=by rw [fold_len (kn3_len tb i),hl]
      generalize pre.foldl (kn3 tb i) bs = qs at *
      have x1:=knS_ix (st:=st) (bs:=qs) (i:=i) (by omega)
      have x2:=knS_set (st:=st) (bs:=qs) (i:=j) (by omega) true
      obtain ⟨c1,c2⟩:=cell_ix z hi (Nat.le_of_lt hj) (knS st qs)
      unfold kn3
      generalize hS : knS st qs = S at *
      generalize hS2 : knS st (qs.set j true) = S2 at *
      generalize qs.getD i false = b at *
      generalize ent tb i j = x at *
      generalize tb.getD i [] = rw at *
      cases b with
      | false=>simp -implicitDefEqProofs [b__law_b_known_3,x1,hS]
      | true=>
        by_cases h1 : i = j
        · subst h1
          simp -implicitDefEqProofs [b__law_b_known_3,x1,hS]
        · have h1' : ¬ ((i : Int) = j):=by omega
          by_cases h2 : 0 < x
          · simp -implicitDefEqProofs [b__law_b_known_3,x1,h1,h1',h2,c1,c2,x2,hS2,-setIx_r]
          · simp -implicitDefEqProofs [b__law_b_known_3,x1,h1,h1',h2,c1,c2,hS])
    ⟨c,rfl,rfl⟩
  rw [<- rangeI0] at e
  exact ⟨c',e⟩
theorem kn_l2 (r : List (Option PV)) {n : Nat} {tb : List (List Int)} (z : Sz n tb) (hn : n <= 100) (st : Store) (a c d : Option PV) (bs : List Bool) (hl : bs.length = n) : ∃ c' d',forG (gaName 4) b__law_b_known_2 [] (rangeI 0 n) (some (tabV tb) :: some (.int n) :: some (.ref st.length) :: a :: c :: d :: r) (knS st bs) = .nx (some (tabV tb) :: some (.int n) :: some (.ref st.length) :: a :: c' :: d' :: r) (knS st (kn1 n tb bs 0)):=by
  have hn1 : -1000000 <= (n : Int) /\ (n : Int) <= 1000000:=by omega
  obtain ⟨Γ',st',e,c',d',rfl,rfl⟩:=forG_invL (g:=fun k : Nat=>PV.int (k : Int)) (xs:=List.range n) (ga:=gaName 4) (body:=b__law_b_known_2) (w:=[]) (Γ:=(some (tabV tb) :: some (.int n) :: some (.ref st.length) :: a :: c :: d :: r)) (st:=knS st bs)
    (fun pre Γ st'=>∃ c' d',Γ = (some (tabV tb) :: some (.int n) :: some (.ref st.length) :: a :: c' :: d' :: r) /\ st' = knS st (pre.foldl (kn2 n tb) bs))
    (fun _ _ _ _=>by simp)
    (fun pre i post Γ st' hx ⟨c',d',e1,e2⟩=>by
      subst e1; subst e2
      have hi : i < n:=List.mem_range.mp (by rw [hx]; simp)
      have hq : (pre.foldl (kn2 n tb) bs).length = n:=by rw [fold_len (kn2_len n tb),hl]
      obtain ⟨d2,e3⟩:=kn_l3 r z hi st a d' _ hq
      refine ⟨_,rfl,(some (tabV tb) :: some (.int n) :: some (.ref st.length) :: a :: some (.int i) :: d2 :: r),_,?_,_,_,rfl,rfl⟩
      rw [List.foldl_append,List.foldl_cons,List.foldl_nil]
      generalize pre.foldl (kn2 n tb) bs = qs at *
      simp -implicitDefEqProofs [b__law_b_known_2,lim_eq,hn1,e3])
    ⟨c,d,rfl,rfl⟩
  rw [<- rangeI0] at e
  exact ⟨c',d',e⟩
theorem kn_l1 (r : List (Option PV)) {n : Nat} {tb : List (List Int)} (z : Sz n tb) (hn : n <= 100) (st : Store) (bs : List Bool) (hl : bs.length = n) : ∃ a' c' d',forG (gaName 3) b__law_b_known_1 [] (rangeI 0 n) (some (tabV tb) :: some (.int n) :: some (.ref st.length) :: none :: none :: none :: r) (knS st bs) = .nx (some (tabV tb) :: some (.int n) :: some (.ref st.length) :: a' :: c' :: d' :: r) (knS st ((List.range n).foldl (kn1 n tb) bs)):=by
  have hn1 : -1000000 <= (n : Int) /\ (n : Int) <= 1000000:=by omega
  obtain ⟨Γ',st',e,a',c',d',rfl,rfl⟩:=forG_invL (g:=fun k : Nat=>PV.int (k : Int)) (xs:=List.range n) (ga:=gaName 3) (body:=b__law_b_known_1) (w:=[]) (Γ:=(some (tabV tb) :: some (.int n) :: some (.ref st.length) :: none :: none :: none :: r)) (st:=knS st bs)
    (fun pre Γ st'=>∃ a' c' d',Γ = (some (tabV tb) :: some (.int n) :: some (.ref st.length) :: a' :: c' :: d' :: r) /\ st' = knS st (pre.foldl (kn1 n tb) bs))
    (fun _ _ _ _=>by simp)
    (fun pre i post Γ st' hx ⟨a',c',d',e1,e2⟩=>by
      subst e1; subst e2
      have hi : i < n:=List.mem_range.mp (by rw [hx]; simp)
      have hq : (pre.foldl (kn1 n tb) bs).length = n:=by rw [fold_len (kn1_len n tb),hl]
      obtain ⟨c2,d2,e3⟩:=kn_l2 r z hn st (some (.int i)) c' d' _ hq
      refine ⟨_,rfl,(some (tabV tb) :: some (.int n) :: some (.ref st.length) :: some (.int i) :: c2 :: d2 :: r),_,?_,_,_,_,rfl,rfl⟩
      rw [List.foldl_append,List.foldl_cons,List.foldl_nil]
      rw [show kn1 n tb (pre.foldl (kn1 n tb) bs) i = kn1 n tb (pre.foldl (kn1 n tb) bs) 0 from rfl]
      generalize pre.foldl (kn1 n tb) bs = qs at *
      simp -implicitDefEqProofs [b__law_b_known_1,lim_eq,hn1,e3])
    ⟨none,none,none,rfl,rfl⟩
  rw [<- rangeI0] at e
  exact ⟨a',c',d',e⟩
theorem known_ok {n : Nat} {tb : List (List Int)} (z : Sz n tb) (hn : n <= 100) (st : Store) : F__law_b_known [tabV tb] st = .ok (.lst ((knownF n tb).map .bl)) st:=by
  have hn1 : -1000000 <= (n : Int) /\ (n : Int) <= 1000000:=by omega
  have hln : cLen st [tabV tb] = .ok (.int n) st:=by simp [tabV,z.1]
  have hc : compG (gaName 0) mTrue e__law_b_known_1 [] (capG [none,some 0] [some (tabV tb),some (.int n),none,none,none,none]) (rangeI 0 n) st = .ok ((knInit n tb).map .bl) st:=by
    unfold knInit
    rw [rangeI0,List.map_map]
    refine compG_on _ _ (by simp) fun j hj=>⟨_,rfl,?_⟩
    have hj:=List.mem_range.mp hj
    obtain ⟨c1,c2⟩:=cell_ix z hj (Nat.le_of_lt hj) st
    show _ = Res.ok (PV.bl (madeF tb j)) st
    unfold madeF
    generalize ent tb j j = x at *
    generalize tb.getD j [] = r at *
    simp -implicitDefEqProofs [capG,e__law_b_known_1,c1,c2]
  obtain ⟨a',c',d',e⟩:=kn_l1 [] z hn st (knInit n tb) (by simp [knInit])
  have hfz : fz st.length (knS st (knownF n tb)) 16 (.ref st.length) = some (.lst ((knownF n tb).map .bl)):=by
    have hg : good 12 (.lst ((knownF n tb).map .bl)) = true:=by simp [good]
    have:=fz_good (n:=st.length) (st:=knS st (knownF n tb)) (k:=16) hg (by decide)
    rw [fz,if_neg (by omega),knS_at]
    simpa [fz] using this
  have hpre : st <+: knS st (knownF n tb):=List.prefix_append _ _
  have hS : st ++ [Cell.lst ((knInit n tb).map .bl)] = knS st (knInit n tb):=rfl
  unfold knownF at *
  generalize (List.range n).foldl (kn1 n tb) (knInit n tb) = ks at *
  generalize knS st ks = S2 at *
  generalize knS st (knInit n tb) = S1 at *
  generalize (knInit n tb).map PV.bl = bv at *
  generalize ks.map PV.bl = kv at *
  simp -implicitDefEqProofs [F__law_b_known,callF,m__law_b_known,lim_eq,hn1,hln,hc,hS,e,fin,hpre,hfz]
inductive Rc (n : Nat) (tb : List (List Int)) : Nat -> Prop
  | made {h : Nat} : h < n -> madeF tb h = true -> Rc n tb h
  | lent {o h : Nat} : Rc n tb o -> h < n -> 0 < ent tb o h -> Rc n tb h
theorem Rc.lt {n h : Nat} {tb : List (List Int)} (r : Rc n tb h) : h < n:=by cases r <;> assumption
theorem fold_inv {α β : Type} {f : β -> α -> β} {P : β -> Prop} : ∀ {xs : List α} {b : β},(∀ b x,x ∈ xs -> P b -> P (f b x)) -> P b -> P (xs.foldl f b)
  | [],_,_,h=>h
  | x :: xs,b,hs,h=>fold_inv (xs:=xs) (fun b y hy=>hs b y (List.mem_cons_of_mem _ hy)) (hs b x List.mem_cons_self h)
theorem fold_hit {α β : Type} {f : β -> α -> β} {P Q : β -> Prop} (hP : ∀ b y,P b -> P (f b y)) (hQ : ∀ b y,Q b -> Q (f b y)) {x : α} (hx : ∀ b,P b -> Q (f b x)) : ∀ {xs : List α} {b : β},x ∈ xs -> P b -> Q (xs.foldl f b)
  | [],_,hm,_=>by cases hm
  | y :: ys,b,hm,hb=>by
    rw [List.foldl_cons]
    rcases List.mem_cons.mp hm with rfl | hm
    · exact fold_inv (fun b y _=>hQ b y) (hx b hb)
    · exact fold_hit hP hQ hx hm (hP b y hb)
def Cl (n : Nat) (tb : List (List Int)) (mem : Nat -> Bool) : Prop:=∀ o h,o < n -> h < n -> o ≠ h -> 0 < ent tb o h -> mem o = true -> mem h = true
def cnt (n : Nat) (mem : Nat -> Bool) : Int:=upto n fun h=>if mem h = true then 1 else 0
theorem cnt_le (n : Nat) (mem : Nat -> Bool) : cnt n mem <= n:=by
  unfold cnt
  induction n with
  | zero=>exact Int.le_refl _
  | succ n ih=>rw [upto_succ]; split <;> omega
theorem cnt_lt {n : Nat} {m1 m2 : Nat -> Bool} (hm : ∀ h,h < n -> m1 h = true -> m2 h = true) {h : Nat} (hh : h < n) (h1 : m1 h = false) (h2 : m2 h = true) : cnt n m1 + 1 <= cnt n m2:=by
  have e:=upto_sub n (fun h=>if m2 h = true then (1 : Int) else 0) (fun h=>if m1 h = true then 1 else 0)
  have l:=upto_le (n:=n) (j:=h) (f:=fun h=>(if m2 h = true then (1 : Int) else 0) - (if m1 h = true then 1 else 0)) (fun i hi=>by
    have:=hm i hi
    cases a : m1 i <;> cases b : m2 i <;> simp_all) hh
  simp only [h1,h2] at l
  unfold cnt
  simp at l
  omega
theorem turns_close {X : Type} (n : Nat) (tb : List (List Int)) (mem : X -> Nat -> Bool) (f : X -> Nat -> X) (Inv : X -> Prop) (hi : ∀ x t,Inv x -> Inv (f x t))
    (mono : ∀ x t h,Inv x -> h < n -> mem x h = true -> mem (f x t) h = true)
    (push : ∀ x t o h,Inv x -> o < n -> h < n -> o ≠ h -> 0 < ent tb o h -> mem x o = true -> mem (f x t) h = true)
    (stay : ∀ x t,Inv x -> Cl n tb (mem x) -> ∀ h,h < n -> mem (f x t) h = true -> mem x h = true) (x0 : X) (h0 : Inv x0) : Cl n tb (mem ((List.range n).foldl f x0)):=by
  have key : ∀ t : Nat,Inv ((List.range t).foldl f x0) /\ (Cl n tb (mem ((List.range t).foldl f x0)) \/ (t : Int) <= cnt n (mem ((List.range t).foldl f x0))):=by
    intro t
    induction t with
    | zero=>
      refine ⟨h0,.inr ?_⟩
      exact upto_nonneg fun i _=>by split <;> omega
    | succ t ih=>
      rw [List.range_succ,List.foldl_append,List.foldl_cons,List.foldl_nil]
      obtain ⟨iv,ih⟩:=ih
      generalize (List.range t).foldl f x0 = x at *
      refine ⟨hi x t iv,?_⟩
      rcases Classical.em (Cl n tb (mem x)) with c | c
      · refine .inl fun o h ho hh hne he hm=>?_
        exact mono x t h iv hh (c o h ho hh hne he (stay x t iv c o ho hm))
      · rcases ih with ih | ih
        · exact absurd ih c
        · refine .inr ?_
          have : ∃ o h,o < n /\ h < n /\ o ≠ h /\ 0 < ent tb o h /\ mem x o = true /\ mem x h = false:=by
            refine Classical.byContradiction fun q=>c fun o h ho hh hne he hm=>?_
            cases e : mem x h with
            | true=>rfl
            | false=>exact absurd ⟨o,h,ho,hh,hne,he,hm,e⟩ q
          obtain ⟨o,h,ho,hh,hne,he,hm,hf⟩:=this
          have:=cnt_lt (fun h hh=>mono x t h iv hh) hh hf (push x t o h iv ho hh hne he hm)
          push_cast
          omega
  obtain ⟨iv,h | h⟩:=key n
  · exact h
  · intro o k ho hk hne he hm
    generalize (List.range n).foldl f x0 = x at *
    cases e : mem x k with
    | true=>rfl
    | false=>
      have:=cnt_lt (m1:=mem x) (m2:=fun _=>true) (fun _ _ _=>rfl) hk e rfl
      have h2:=cnt_le n fun _=>true
      omega
theorem set_get {bs : List Bool} {j h : Nat} : ((bs.set j true).getD h false = true) <-> (h = j /\ j < bs.length) \/ bs.getD h false = true:=by
  rw [List.getD,List.getElem?_set]
  by_cases e : j = h
  · subst e
    by_cases l : j < bs.length
    · simp [l]
    · simp [l,List.getD]
  · rw [if_neg e]
    constructor
    · intro q; exact .inr q
    · rintro (⟨q,_⟩ | q)
      · exact absurd q.symm e
      · exact q
theorem kn3_mono {tb : List (List Int)} {i j h : Nat} {bs : List Bool} (q : bs.getD h false = true) : (kn3 tb i bs j).getD h false = true:=by
  unfold kn3
  split
  · exact set_get.mpr (.inr q)
  · exact q
theorem kn2_mono {n : Nat} {tb : List (List Int)} {i h : Nat} {bs : List Bool} (q : bs.getD h false = true) : (kn2 n tb bs i).getD h false = true:=fold_inv (P:=fun bs : List Bool=>bs.getD h false = true) (fun _ _ _ q=>kn3_mono q) q
theorem kn1_mono {n : Nat} {tb : List (List Int)} {t h : Nat} {bs : List Bool} (q : bs.getD h false = true) : (kn1 n tb bs t).getD h false = true:=fold_inv (P:=fun bs : List Bool=>bs.getD h false = true) (fun _ _ _ q=>kn2_mono q) q
theorem known_closed (n : Nat) (tb : List (List Int)) : Cl n tb fun h=>(knownF n tb).getD h false:=by
  refine turns_close n tb (fun (bs : List Bool) h=>bs.getD h false) (kn1 n tb) (fun bs=>bs.length = n) (fun x t hx=>by rw [kn1_len]; exact hx) (fun x t h _ _ q=>kn1_mono q) (fun x t o h hx ho hh hne he hm=>?_) (fun x t hx c h hh hm=>?_) _ (by simp [knInit])
  · show (kn1 n tb x t).getD h false = true
    refine fold_hit (P:=fun bs : List Bool=>bs.length = n /\ bs.getD o false = true) (Q:=fun bs : List Bool=>bs.getD h false = true) (fun bs y q=>⟨by rw [kn2_len]; exact q.1,kn2_mono q.2⟩) (fun bs y q=>kn2_mono q) (x:=o) (fun bs q=>?_) (List.mem_range.mpr ho) ⟨hx,hm⟩
    refine fold_hit (P:=fun bs : List Bool=>bs.length = n /\ bs.getD o false = true) (Q:=fun bs : List Bool=>bs.getD h false = true) (fun bs y q=>⟨by rw [kn3_len]; exact q.1,kn3_mono q.2⟩) (fun bs y q=>kn3_mono q) (x:=h) (fun bs q=>?_) (List.mem_range.mpr hh) q
    unfold kn3
    rw [if_pos ⟨q.2,hne,he⟩]
    exact set_get.mpr (.inl ⟨rfl,by rw [q.1]; exact hh⟩)
  · have : ∀ g,g < n -> (kn1 n tb x t).getD g false = true -> x.getD g false = true:=by
      refine fold_inv (P:=fun bs : List Bool=>∀ g,g < n -> bs.getD g false = true -> x.getD g false = true) (fun bs i hi hb=>?_) fun g _ q=>q
      refine fold_inv (P:=fun bs : List Bool=>∀ g,g < n -> bs.getD g false = true -> x.getD g false = true) (fun bs j hj hb g hg q=>?_) hb
      unfold kn3 at q
      split at q
      · rename_i cc
        rcases set_get.mp q with ⟨rfl,_⟩ | q
        · exact c i g (List.mem_range.mp hi) hg cc.2.1 cc.2.2 (hb i (List.mem_range.mp hi) cc.1)
        · exact hb g hg q
      · exact hb g hg q
    exact this h hh hm
theorem known_rc (n : Nat) (tb : List (List Int)) {h : Nat} (hh : h < n) : (knownF n tb).getD h false = true <-> Rc n tb h:=by
  constructor
  · have : ∀ g,g < n -> (knownF n tb).getD g false = true -> Rc n tb g:=by
      refine fold_inv (P:=fun bs : List Bool=>∀ g,g < n -> bs.getD g false = true -> Rc n tb g) (fun bs t _ hb=>?_) fun g hg q=>?_
      · refine fold_inv (P:=fun bs : List Bool=>∀ g,g < n -> bs.getD g false = true -> Rc n tb g) (fun bs i hi hb=>?_) hb
        refine fold_inv (P:=fun bs : List Bool=>∀ g,g < n -> bs.getD g false = true -> Rc n tb g) (fun bs j hj hb g hg q=>?_) hb
        unfold kn3 at q
        split at q
        · rename_i cc
          rcases set_get.mp q with ⟨rfl,_⟩ | q
          · exact .lent (hb i (List.mem_range.mp hi) cc.1) hg cc.2.2
          · exact hb g hg q
        · exact hb g hg q
      · unfold knInit at q
        rw [List.getD,List.getElem?_map,List.getElem?_range hg] at q
        exact .made hg (by simpa using q)
    exact this h hh
  · intro r
    induction r with
    | made hl hm=>
      refine fold_inv (P:=fun bs : List Bool=>bs.getD _ false = true) (fun bs t _ q=>kn1_mono q) ?_
      unfold knInit
      rw [List.getD,List.getElem?_map,List.getElem?_range hl]
      simpa using hm
    | @lent o g r hl he ih=>
      by_cases e : o = g
      · subst e; exact ih r.lt
      · exact known_closed n tb o g r.lt hl e he (ih r.lt)
def RdOk (n : Nat) (fs : List Nat) : Prop:=(∀ x ∈ fs,x < n) /\ fs.Nodup
theorem nodup_len : ∀ {n : Nat} {fs : List Nat},(∀ x ∈ fs,x < n) -> fs.Nodup -> fs.length <= n
  | 0,[],_,_=>Nat.le_refl _
  | 0,x :: _,h,_=>absurd (h x List.mem_cons_self) (Nat.not_lt_zero _)
  | n + 1,fs,h,d=>by
    by_cases hm : n ∈ fs
    · have h1 : (fs.erase n).length <= n:=nodup_len (fun x hx=>by
        have h2:=(d.mem_erase_iff).mp hx
        have:=h x h2.2
        omega) (d.erase n)
      rw [List.length_erase_of_mem hm] at h1
      omega
    · have:=nodup_len (n:=n) (fs:=fs) (fun x hx=>by
        have:=h x hx
        have : x ≠ n:=fun e=>hm (e ▸ hx)
        omega) d
      omega
theorem RdOk.len {n : Nat} {fs : List Nat} (h : RdOk n fs) : fs.length <= n:=nodup_len h.1 h.2
def AhN (tb : List (List Int)) (fs : List Nat) : Prop:=∀ k,k < fs.length -> madeF tb (fs.getD k 0) = true \/ ∃ o ∈ fs.take k,0 < ent tb o (fs.getD k 0)
theorem AhN.snoc {tb : List (List Int)} {fs : List Nat} {h : Nat} (a : AhN tb fs) (ha : madeF tb h = true \/ ∃ o ∈ fs,0 < ent tb o h) : AhN tb (fs ++ [h]):=by
  intro k hk
  rw [List.length_append,List.length_singleton] at hk
  by_cases e : k < fs.length
  · have:=a k e
    rw [List.take_append_of_le_length (by omega)]
    rw [show (fs ++ [h]).getD k 0 = fs.getD k 0 by rw [List.getD,List.getD,List.getElem?_append_left e]]
    exact this
  · have : k = fs.length:=by omega
    subst this
    rw [show (fs ++ [h]).getD fs.length 0 = h by simp [List.getD]]
    rw [List.take_left]
    exact ha
def intsN (fs : List Nat) : List Int:=fs.map fun k : Nat=>(k : Int)
def rdS (st : Store) (fs : List Nat) : Store:=st ++ [Cell.lst (fs.map intV)]
theorem rdS_at (st : Store) (fs : List Nat) : (rdS st fs)[st.length]? = some (.lst (fs.map intV)):=by unfold rdS; simp
theorem intsN_map (fs : List Nat) : (intsN fs).map PV.int = fs.map intV:=by unfold intsN; rw [List.map_map]; rfl
theorem intsN_mem {fs : List Nat} {h : Nat} : (h : Int) ∈ intsN fs <-> h ∈ fs:=by
  unfold intsN
  rw [List.mem_map]
  constructor
  · rintro ⟨k,hk,e⟩
    have : k = h:=by omega
    rw [<- this]; exact hk
  · intro q; exact ⟨h,q,rfl⟩
def othF (n : Nat) (fs : List Nat) : List Nat:=(List.range n).filter fun h=>!decide (h ∈ fs)
def fndF (n : Nat) (tb : List (List Int)) (fs : List Nat) : List Nat:=(othF n fs).filter fun h=>rootsF tb h fs
structure GdR (n : Nat) (tb : List (List Int)) (fs : List Nat) : Prop where
  rd : RdOk n fs
  ah : AhN tb fs
  rc : ∀ h ∈ fs,Rc n tb h
theorem AhN.more {tb : List (List Int)} : ∀ {ds fs : List Nat},AhN tb fs -> (∀ h ∈ ds,madeF tb h = true \/ ∃ o ∈ fs,0 < ent tb o h) -> AhN tb (fs ++ ds)
  | [],fs,a,_=>by rw [List.append_nil]; exact a
  | d :: ds,fs,a,h=>by
    rw [show fs ++ d :: ds = (fs ++ [d]) ++ ds by simp]
    refine AhN.more (a.snoc (h d List.mem_cons_self)) fun g hg=>?_
    rcases h g (List.mem_cons_of_mem _ hg) with q | ⟨o,ho,q⟩
    · exact .inl q
    · exact .inr ⟨o,List.mem_append_left _ ho,q⟩
theorem fnd_mem {n : Nat} {tb : List (List Int)} {fs : List Nat} {h : Nat} (q : h ∈ fndF n tb fs) : h < n /\ h ∉ fs /\ (madeF tb h = true \/ ∃ o ∈ fs,0 < ent tb o h):=by
  obtain ⟨q1,q2⟩:=List.mem_filter.mp q
  obtain ⟨q3,q4⟩:=List.mem_filter.mp q1
  refine ⟨List.mem_range.mp q3,by simpa using q4,?_⟩
  unfold rootsF lentF at q2
  rw [Bool.or_eq_true] at q2
  rcases q2 with q2 | q2
  · exact .inl q2
  · obtain ⟨o,ho,e⟩:=List.any_eq_true.mp q2
    rw [Bool.and_eq_true] at e
    exact .inr ⟨o,ho,by simpa using e.2⟩
theorem GdR.step {n : Nat} {tb : List (List Int)} {fs : List Nat} (g : GdR n tb fs) : GdR n tb (fs ++ fndF n tb fs):=by
  refine ⟨⟨fun x hx=>?_,?_⟩,g.ah.more fun h q=>(fnd_mem q).2.2,fun h hx=>?_⟩
  · rcases List.mem_append.mp hx with hx | hx
    · exact g.rd.1 x hx
    · exact (fnd_mem hx).1
  · refine List.nodup_append.mpr ⟨g.rd.2,(List.nodup_range.filter _).filter _,fun a ha b hb e=>?_⟩
    subst e
    exact (fnd_mem hb).2.1 ha
  · rcases List.mem_append.mp hx with hx | hx
    · exact g.rc h hx
    · obtain ⟨h1,_,h2 | ⟨o,ho,he⟩⟩:=fnd_mem hx
      · exact .made h1 h2
      · exact .lent (g.rc o ho) h1 he
theorem GdR.closed {n : Nat} {tb : List (List Int)} {fs : List Nat} (g : GdR n tb fs) (hc : fndF n tb fs = []) {h : Nat} (hh : h < n) : h ∈ fs <-> Rc n tb h:=by
  refine ⟨g.rc h,fun r=>?_⟩
  have hno : ∀ k,k < n -> k ∉ fs -> rootsF tb k fs = false:=fun k hk hm=>by
    cases e : rootsF tb k fs with
    | false=>rfl
    | true=>
      have : k ∈ fndF n tb fs:=List.mem_filter.mpr ⟨List.mem_filter.mpr ⟨List.mem_range.mpr hk,by simp [hm]⟩,e⟩
      rw [hc] at this
      cases this
  induction r with
  | @made k hl hm=>
    refine Classical.byContradiction fun q=>?_
    have:=hno k hl q
    unfold rootsF at this
    rw [hm] at this
    cases this
  | @lent o k r hl he ih=>
    refine Classical.byContradiction fun q=>?_
    have:=hno k hl q
    unfold rootsF lentF at this
    rw [Bool.or_eq_false_iff,List.any_eq_false] at this
    have ho:=ih r.lt
    have hne : o ≠ k:=fun e=>q (e ▸ ho)
    exact this.2 o ho (by simp [hne,he])
theorem rt_turn {n : Nat} {tb : List (List Int)} (z : Sz n tb) (hn : n <= 100) (st : Store) (fs : List Nat) (r : RdOk n fs) (b a c : Option PV) : b_rooted_houses_1 [some (tabV tb),some (.ref st.length),b,a,c] (rdS st fs) = .nx [some (tabV tb),some (.ref st.length),some (.bl (decide (0 < (fndF n tb fs).length))),some (.lst ((othF n fs).map intV)),some (.lst ((fndF n tb fs).map intV))] (rdS st (fs ++ fndF n tb fs)):=by
  have hn1 : -1000000 <= (n : Int) /\ (n : Int) <= 1000000:=by omega
  have hql:=r.len
  have hS:=rdS_at st fs
  have hat : ListAt (rdS st fs) (.ref st.length) ((intsN fs).map .int):=.inr (.inr ⟨_,rfl,by rw [intsN_map]; exact hS⟩)
  have hat2 : ListAt (rdS st fs) (.ref st.length) (fs.map intV):=.inr (.inr ⟨_,rfl,hS⟩)
  have hln : cLen (rdS st fs) [tabV tb] = .ok (.int n) (rdS st fs):=by simp [tabV,z.1]
  have hc1 : compG (gaName 0) t_rooted_houses_1 e_rooted_houses_1 [] (capG [none,some 1] [some (tabV tb),some (.ref st.length),b,a,c]) (rangeI 0 n) (rdS st fs) = .ok ((othF n fs).map intV) (rdS st fs):=by
    rw [rangeI0]
    refine compG_onF _ _ _ (by simp) fun j hj=>⟨_,rfl,?_,fun ht=>?_⟩
    · have hin:=in_ok hat (j : Int) true
      by_cases q : j ∈ fs
      · have q' : (j : Int) ∈ intsN fs:=intsN_mem.mpr q
        generalize rdS st fs = S at *
        simp -implicitDefEqProofs [capG,t_rooted_houses_1,hin,q,q']
      · have q' : ¬ (j : Int) ∈ intsN fs:=fun z=>q (intsN_mem.mp z)
        generalize rdS st fs = S at *
        simp -implicitDefEqProofs [capG,t_rooted_houses_1,hin,q,q']
    · simp [capG,e_rooted_houses_1,intV]
  have hol : (othF n fs).length <= n:=by
    have:=List.length_filter_le (fun h=>!decide (h ∈ fs)) (List.range n)
    rw [List.length_range] at this
    exact this
  have hon : ∀ h ∈ othF n fs,h < n:=fun h hh=>List.mem_range.mp (List.mem_filter.mp hh).1
  have hc2 : compG (gaName 0) t_rooted_houses_2 e_rooted_houses_2 [] (capG [none,some 0,some 1] [some (tabV tb),some (.ref st.length),b,some (.lst ((othF n fs).map intV)),c]) ((othF n fs).map intV) (rdS st fs) = .ok ((fndF n tb fs).map intV) (rdS st fs):=by
    unfold fndF
    refine compG_onF _ _ _ (by simp) fun j hj=>⟨_,rfl,?_,fun ht=>?_⟩
    · have hr:=root_ok z (h:=j) (hon j hj) r.1 (by omega) hat2
      generalize rootsF tb j fs = rb at *
      generalize rdS st fs = S at *
      generalize (othF n fs).map intV = ov at *
      simp -implicitDefEqProofs [capG,t_rooted_houses_2,intV,hr]
    · simp [capG,e_rooted_houses_2,intV]
  have hfl : (fndF n tb fs).length <= n:=Nat.le_trans (List.length_filter_le _ _) hol
  have hset : (rdS st fs).set st.length (.lst (fs.map intV ++ (fndF n tb fs).map intV)) = rdS st (fs ++ fndF n tb fs):=by
    unfold rdS
    rw [List.map_append]
    simp
  have l1 : ((othF n fs).map intV).length <= 1000000:=by rw [List.length_map]; omega
  have l2 : (fs.map intV).length + ((fndF n tb fs).map intV).length <= 1000000:=by rw [List.length_map,List.length_map]; omega
  have l3 : ((fndF n tb fs).map intV).length = (fndF n tb fs).length:=List.length_map _
  generalize rdS st (fs ++ fndF n tb fs) = S2 at *
  generalize rdS st fs = S at *
  generalize (othF n fs).map intV = ov at *
  generalize (fndF n tb fs).length = fl at *
  generalize (fndF n tb fs).map intV = fv at *
  generalize fs.map intV = xv at *
  rw [l3] at l2
  simp -implicitDefEqProofs [b_rooted_houses_1,hln,hn1,lim_eq,hc1,l1,hc2,hS,mtExtend,chg,l2,l3,hset]
theorem rt_while {n : Nat} {tb : List (List Int)} (z : Sz n tb) (hn : n <= 100) (st : Store) : ∀ (m fuel : Nat) (fs : List Nat) (a c : Option PV),GdR n tb fs -> n <= fs.length + m -> m + 2 <= fuel -> ∃ fs' b' a' c',GdR n tb fs' /\ fndF n tb fs' = [] /\ whileG w_rooted_houses_1 b_rooted_houses_1 fuel [some (tabV tb),some (.ref st.length),some (.bl true),a,c] (rdS st fs) = .nx [some (tabV tb),some (.ref st.length),b',a',c'] (rdS st fs')
  | m,0,_,_,_,_,_,h=>absurd h (by omega)
  | m,1,_,_,_,_,_,h=>absurd h (by omega)
  | m,k + 2,fs,a,c,g,hm,hf=>by
    have ht:=rt_turn z hn st fs g.rd (some (.bl true)) a c
    have w1 : ∀ S,w_rooted_houses_1 [some (tabV tb),some (.ref st.length),some (.bl true),a,c] S = .ok true S:=fun S=>by simp [w_rooted_houses_1]
    by_cases e : fndF n tb fs = []
    · refine ⟨fs,some (.bl false),some (.lst ((othF n fs).map intV)),some (.lst ((fndF n tb fs).map intV)),g,e,?_⟩
      rw [whileG,w1]
      simp only [sbind_ok,if_true,ht]
      rw [whileG]
      have w2 : ∀ S,w_rooted_houses_1 [some (tabV tb),some (.ref st.length),some (.bl (decide (0 < (fndF n tb fs).length))),some (.lst ((othF n fs).map intV)),some (.lst ((fndF n tb fs).map intV))] S = .ok false S:=fun S=>by simp [w_rooted_houses_1,e]
      rw [w2]
      simp [e]
    · have hp : 0 < (fndF n tb fs).length:=List.length_pos_iff.mpr e
      have g':=g.step
      have hl':=g'.rd.len
      rw [List.length_append] at hl'
      cases m with
      | zero=>omega
      | succ m=>
        obtain ⟨fs',b',a',c',h1,h2,h3⟩:=rt_while z hn st m (k + 1) (fs ++ fndF n tb fs) (some (.lst ((othF n fs).map intV))) (some (.lst ((fndF n tb fs).map intV))) g' (by rw [List.length_append]; omega) (by omega)
        refine ⟨fs',b',a',c',h1,h2,?_⟩
        rw [whileG,w1]
        rw [decide_eq_true hp] at ht
        simp only [sbind_ok,if_true,ht]
        exact h3
theorem rooted_run {n : Nat} {tb : List (List Int)} (z : Sz n tb) (hn : n <= 100) (st : Store) : ∃ fs,GdR n tb fs /\ fndF n tb fs = [] /\ m_rooted_houses [some (tabV tb),none,none,none,none] st = .rt (.ref st.length) (rdS st fs):=by
  obtain ⟨fs,b',a',c',g,e,h⟩:=rt_while z hn st n 100000 [] none none ⟨⟨fun x hx=>(by cases hx),List.nodup_nil⟩,fun k hk=>absurd hk (Nat.not_lt_zero _),fun x hx=>(by cases hx)⟩ (by simp) (by omega)
  refine ⟨fs,g,e,?_⟩
  have hS : st ++ [Cell.lst []] = rdS st []:=rfl
  generalize rdS st fs = S2 at *
  generalize rdS st [] = S1 at *
  simp -implicitDefEqProofs [m_rooted_houses,lim_eq,hS,h]
theorem rooted_ok {n : Nat} {tb : List (List Int)} (z : Sz n tb) (hn : n <= 100) (st : Store) : ∃ fs,GdR n tb fs /\ fndF n tb fs = [] /\ F_rooted_houses [tabV tb] st = .ok (.lst (fs.map intV)) st:=by
  obtain ⟨fs,g,e,h⟩:=rooted_run z hn st
  refine ⟨fs,g,e,?_⟩
  have hfz:=fz_ints (n:=st.length) (r:=st.length) (S:=rdS st fs) (hs:=intsN fs) (Nat.le_refl _) (by rw [intsN_map]; exact rdS_at _ _)
  rw [intsN_map] at hfz
  have hpre : st <+: rdS st fs:=List.prefix_append _ _
  generalize rdS st fs = S2 at *
  show callF m_rooted_houses 5 [tabV tb] st = _
  unfold callF
  rw [show (([tabV tb] : List PV).map some ++ List.replicate (5 - [tabV tb].length) none) = [some (tabV tb),none,none,none,none] from rfl,h]
  show Sm.fin st (.ref st.length) S2 = _
  unfold Sm.fin
  rw [if_pos hpre,hfz]
  rfl
theorem rc_dec {n : Nat} {tb : List (List Int)} {fs : List Nat} (g : GdR n tb fs) (hc : fndF n tb fs = []) : ((List.range n).all fun h=>(knownF n tb).getD h false || !busyF tb h) = (List.range n).all fun h=>decide (h ∈ fs) || !busyF tb h:=by
  rw [Bool.eq_iff_iff,List.all_eq_true,List.all_eq_true]
  have hh : ∀ h,h ∈ List.range n -> (decide (h ∈ fs) || !busyF tb h) = ((knownF n tb).getD h false || !busyF tb h):=fun h hm=>by
    have hlt:=List.mem_range.mp hm
    congr 1
    rw [Bool.eq_iff_iff,decide_eq_true_iff,g.closed hc hlt,known_rc n tb hlt]
  constructor <;> intro q x hx
  · rw [hh x hx]; exact q x hx
  · rw [<- hh x hx]; exact q x hx
def reachF (n : Nat) (tb : List (List Int)) : Bool:=(List.range n).all fun h=>(knownF n tb).getD h false || !busyF tb h
theorem oth_busy {n : Nat} {tb : List (List Int)} {fs : List Nat} (g : GdR n tb fs) (hc : fndF n tb fs = []) : (othF n fs).any (busyF tb) = !reachF n tb:=by
  unfold reachF
  rw [rc_dec g hc]
  unfold othF
  rw [List.any_filter,List.any_eq_not_all_not]
  congr 2
  funext h
  rw [Bool.not_and,Bool.not_not]
theorem forG_first {α : Type} (g : α -> PV) (J : Gam -> Prop) (Pd : α -> Bool) (v : α -> PV) {ga : GA} {body : MS} {w : Wt} {st : Store} (hw : wOk w st) : ∀ {xs : List α},(∀ x ∈ xs,∀ Γ,J Γ -> ∃ Γ1,ga (g x) Γ = some Γ1 /\ (Pd x = true -> ∃ Γ2,J Γ2 /\ body Γ1 st = .nx Γ2 st) /\ (Pd x = false -> body Γ1 st = .rt (v x) st)) ->
    ∀ Γ,J Γ -> (xs.all Pd = true -> ∃ Γ',J Γ' /\ forG ga body w (xs.map g) Γ st = .nx Γ' st) /\ (xs.all Pd = false -> ∃ x ∈ xs,Pd x = false /\ forG ga body w (xs.map g) Γ st = .rt (v x) st)
  | [],_,Γ,hJ=>⟨fun _=>⟨Γ,hJ,by simp [forG,hw]⟩,fun h=>by simp at h⟩
  | x :: xs,h,Γ,hJ=>by
    obtain ⟨Γ1,h1,h2,h3⟩:=h x List.mem_cons_self Γ hJ
    rw [List.map_cons,forG,if_pos hw,h1]
    cases px : Pd x with
    | false=>
      refine ⟨fun z=>by simp [px] at z,fun _=>⟨x,List.mem_cons_self,px,?_⟩⟩
      simp only [h3 px]
    | true=>
      obtain ⟨Γ2,j2,e2⟩:=h2 px
      have ih:=forG_first g J Pd v (ga:=ga) (body:=body) hw (xs:=xs) (fun y hy=>h y (List.mem_cons_of_mem _ hy)) Γ2 j2
      simp only [e2,List.all_cons,px,Bool.true_and]
      exact ⟨ih.1,fun q=>by
        obtain ⟨y,hy,p,e⟩:=ih.2 q
        exact ⟨y,List.mem_cons_of_mem _ hy,p,e⟩⟩
def comesB (n : Nat) (tb : List (List Int)) : Bool:=((List.range n).all fun h=>decide (0 <= rightsF tb h)) && reachF n tb
theorem rootless_houses_okF {n : Nat} {tb : List (List Int)} (z : Sz n tb) (hn : n <= 100) (st : Store) : ∃ us : List Nat,us.length <= n /\ (us = [] <-> reachF n tb = true) /\ F_rootless_houses [tabV tb] st = .ok (.lst (us.map intV)) st:=by
  obtain ⟨fs,g,hc,e⟩:=rooted_ok z hn st
  have hn1 : -1000000 <= (n : Int) /\ (n : Int) <= 1000000:=by omega
  have hln : cLen st [tabV tb] = .ok (.int n) st:=by simp [tabV,z.1]
  have hat : ListAt st (.lst (fs.map intV)) ((intsN fs).map .int):=.inl (by rw [intsN_map])
  have hc1 : compG (gaName 0) t_rootless_houses_1 e_rootless_houses_1 [] (capG [none,some 1] [some (tabV tb),some (.lst (fs.map intV)),none]) (rangeI 0 n) st = .ok ((othF n fs).map intV) st:=by
    rw [rangeI0]
    refine compG_onF _ _ _ (by simp) fun j hj=>⟨_,rfl,?_,fun ht=>?_⟩
    · have hin:=in_ok hat (j : Int) true
      by_cases q : j ∈ fs
      · have q' : (j : Int) ∈ intsN fs:=intsN_mem.mpr q
        generalize fs.map intV = fv at *
        simp -implicitDefEqProofs [capG,t_rootless_houses_1,hin,q,q']
      · have q' : ¬ (j : Int) ∈ intsN fs:=fun z=>q (intsN_mem.mp z)
        generalize fs.map intV = fv at *
        simp -implicitDefEqProofs [capG,t_rootless_houses_1,hin,q,q']
    · simp [capG,e_rootless_houses_1,intV]
  have hol : (othF n fs).length <= n:=by
    have:=List.length_filter_le (fun h=>!decide (h ∈ fs)) (List.range n)
    rw [List.length_range] at this
    exact this
  have hon : ∀ h ∈ othF n fs,h < n:=fun h hh=>List.mem_range.mp (List.mem_filter.mp hh).1
  have hob:=oth_busy g hc
  have hc2 : compG (gaName 0) mTrue e_rootless_houses_2 [] (capG [none,some 0] [some (tabV tb),some (.lst (fs.map intV)),some (.lst ((othF n fs).map intV))]) ((othF n fs).map intV) st = .ok (((othF n fs).map (busyF tb)).map .bl) st:=by
    rw [List.map_map]
    refine compG_on _ _ (by simp) fun j hj=>⟨_,rfl,?_⟩
    have hb:=busy_ok z (hon j hj) st
    show _ = Res.ok (PV.bl (busyF tb j)) st
    generalize busyF tb j = rb at *
    simp -implicitDefEqProofs [capG,e_rootless_houses_2,intV,hb]
  have ha : (othF n fs).any (busyF tb) = ((othF n fs).map (busyF tb)).any id:=(any_id _ _).symm
  have l1 : ((othF n fs).map intV).length <= 1000000:=by rw [List.length_map]; omega
  have hgd : fin st (.lst ((othF n fs).map intV)) st = .ok (.lst ((othF n fs).map intV)) st:=fin_good (by simp [good,intV])
  have hgn : fin st (.lst []) st = .ok (.lst []) st:=fin_good (by simp [good])
  cases hr : reachF n tb with
  | true=>
    refine ⟨[],by simp,by simp,?_⟩
    rw [hr,ha] at hob
    rw [List.map_nil]
    generalize (othF n fs).map (busyF tb) = bs at *
    generalize (othF n fs).map intV = ov at *
    have hob : bs.any id = false:=hob
    simp -implicitDefEqProofs [F_rootless_houses,callF,m_rootless_houses,e,hln,hn1,lim_eq,hc1,l1,hc2,hob,hgn]
  | false=>
    rw [hr] at hob
    refine ⟨othF n fs,hol,⟨fun q=>?_,fun q=>by cases q⟩,?_⟩
    · rw [q] at hob; cases hob
    · rw [ha] at hob
      have hob : ((othF n fs).map (busyF tb)).any id = true:=hob
      generalize (othF n fs).map (busyF tb) = bs at *
      generalize (othF n fs).map intV = ov at *
      simp -implicitDefEqProofs [F_rootless_houses,callF,m_rootless_houses,e,hln,hn1,lim_eq,hc1,l1,hc2,hob,hgd]
theorem comes_okF {n : Nat} {tb : List (List Int)} (z : Sz n tb) (hn : n <= 100) (st : Store) : ∃ (s : Str) (v : PV),F_comes_about [tabV tb] st = .ok (.tup [.str s,v]) st /\ (s == (Str.ofString "comes")) = comesB n tb:=by
  have hn1 : -1000000 <= (n : Int) /\ (n : Int) <= 1000000:=by omega
  have hln : ∀ S,cLen S [tabV tb] = .ok (.int n) S:=fun S=>by simp [tabV,z.1]
  have L:=forG_first (fun k : Nat=>PV.int (k : Int)) (fun Γ=>∃ a,Γ = [some (tabV tb),a,none]) (fun h=>decide (0 <= rightsF tb h)) (fun h=>.tup [.str "short",.int h]) (ga:=gaName 1) (body:=b_comes_about_1) (w:=[]) (st:=st) (by simp) (xs:=List.range n) (fun h hh Γ ⟨a,e⟩=>by
    subst e
    have hr:=rights_ok z hn (List.mem_range.mp hh) st
    refine ⟨_,rfl,fun hp=>⟨[some (tabV tb),some (.int h),none],⟨_,rfl⟩,?_⟩,fun hp=>?_⟩
    · have hnn : 0 <= rightsF tb h:=by simpa using hp
      have : ¬ (rightsF tb h < 0):=by omega
      generalize rightsF tb h = x at *
      simp -implicitDefEqProofs [b_comes_about_1,hr,this]
    · have hnn : ¬ 0 <= rightsF tb h:=by simpa using hp
      have : rightsF tb h < 0:=by omega
      generalize rightsF tb h = x at *
      simp -implicitDefEqProofs [b_comes_about_1,hr,this,lim_eq])
  have L:=L [some (tabV tb),none,none] ⟨_,rfl⟩
  rw [<- rangeI0] at L
  unfold comesB
  cases ha : (List.range n).all fun h=>decide (0 <= rightsF tb h) with
  | false=>
    obtain ⟨h,hh,hp,e⟩:=L.2 ha
    refine ⟨"short",.int h,?_,by rw [Bool.false_and]; decide +kernel⟩
    have hg : fin st (.tup [.str "short",.int h]) st = .ok (.tup [.str "short",.int h]) st:=fin_good (by simp [good])
    simp -implicitDefEqProofs [F_comes_about,callF,m_comes_about,hln,hn1,lim_eq,e,hg]
  | true=>
    obtain ⟨Γ',⟨a,rfl⟩,e⟩:=L.1 ha
    obtain ⟨us,hl,hne,e1⟩:=rootless_houses_okF z hn st
    cases hr : reachF n tb with
    | true=>
      have hu:=hne.mpr hr
      subst hu
      obtain ⟨fs,g,hc,e2⟩:=rooted_ok z hn st
      refine ⟨"comes",.lst (fs.map intV),?_,by rw [Bool.true_and]; decide +kernel⟩
      have hg : fin st (.tup [.str "comes",.lst (fs.map intV)]) st = .ok (.tup [.str "comes",.lst (fs.map intV)]) st:=fin_good (by simp [good,intV])
      rw [List.map_nil] at e1
      generalize fs.map intV = fv at *
      simp -implicitDefEqProofs [F_comes_about,callF,m_comes_about,hln,hn1,lim_eq,e,e1,e2,hg]
    | false=>
      have hu : us ≠ []:=fun q=>by rw [hne.mp q] at hr; cases hr
      refine ⟨"rootless",.lst (us.map intV),?_,by rw [Bool.true_and]; decide +kernel⟩
      have hp : 0 < (us.map intV).length:=by rw [List.length_map]; exact List.length_pos_iff.mpr hu
      have hg : fin st (.tup [.str "rootless",.lst (us.map intV)]) st = .ok (.tup [.str "rootless",.lst (us.map intV)]) st:=fin_good (by simp [good,intV])
      generalize us.map intV = uv at *
      simp -implicitDefEqProofs [F_comes_about,callF,m_comes_about,hln,hn1,lim_eq,e,e1,hp,hg]
theorem is_row_ok (r : List Int) (n : Int) (st : Store) (hl : r.length <= lim) : F_is_row [rowV r,.int n] st = .ok (.bl (decide ((r.length : Int) = n + 1) && r.all fun i=>decide (0 <= i))) st:=by
  have hc : compG (gaName 0) mTrue e_is_row_1 [] (capG [none] [some (rowV r),some (.int n)]) (r.map .int) st = .ok (r.map fun i=>.bl (decide (0 <= i))) st:=by
    refine compG_on _ _ (by simp) fun i hi=>⟨_,rfl,?_⟩
    simp [capG,e_is_row_1,is_whole_int]
  unfold rowV at hc ⊢
  by_cases h : (r.length : Int) = n + 1 <;> simp [F_is_row,callF,m_is_row,isI,tyN,hc,h,hl,all_id]
theorem is_table_ok {n : Nat} {tb : List (List Int)} (w : Wt' n tb) (st : Store) : F_is_table [tabV tb] st = .ok (.bl true) st:=by
  have h1:=w.n1
  have h8:=w.n8
  have hc : compG (gaName 0) mTrue e_is_table_1 [] (capG [none,some 0] [some (tabV tb)]) (tb.map rowV) st = .ok (tb.map fun _=>.bl true) st:=by
    refine compG_on _ _ (by simp) fun r hr=>⟨_,rfl,?_⟩
    have e:=w.row r hr
    have e2:=is_row_ok r tb.length st (by rw [e,lim_eq]; omega)
    simp [capG,e_is_table_1,tabV,e2]
    rw [w.len,e]
    exact ⟨by omega,w.nn r hr⟩
  unfold tabV at hc ⊢
  have h1' : (1 : Int) <= n:=by omega
  have h8' : (n : Int) <= 8:=by omega
  have hl : n <= 1000000:=by omega
  simp [F_is_table,callF,m_is_table,isI,tyN,hc,w.len,all_id,h1',h8',lim_eq,hl]
def dstep (m x : Int) : Int:=(m * 69621 + x % 998244353 + 1) % 1000000007
def dM (k : Nat) (pre : List Int) : Int:=pre.foldl dstep (1000003 * (k + 1))
theorem dM_snoc (k : Nat) (pre : List Int) (x : Int) : dM k (pre ++ [x]) = (dM k pre * 69621 + x % 998244353 + 1) % 1000000007:=by
  unfold dM
  rw [List.foldl_append,List.foldl_cons,List.foldl_nil,dstep]
theorem dM_nil (k : Nat) : dM k [] = 1000003 * (k + 1):=by
  unfold dM
  rw [List.foldl_nil]
theorem dM_bd (k : Nat) (hk : k <= 1000) (l : List Int) : 0 <= dM k l /\ dM k l < 10000000000:=by
  rcases List.eq_nil_or_concat l with rfl | ⟨pre,x,rfl⟩
  · rw [dM_nil]; omega
  · rw [List.concat_eq_append,dM_snoc]
    have:=emod_lt (dM k pre * 69621 + x % 998244353 + 1) (b:=1000000007) (by decide)
    omega
def drawF (k : Nat) (m : Int) : Int:=((m * m % 1000000007 + 7919 * k * k) * 48271 % 2147483647) * ((m * m % 1000000007 + 7919 * k * k) * 48271 % 2147483647) % 2147483647 / 8
def drawI (ns : List Int) (k : Nat) : Int:=match ns[k]? with
  | some x=>x % 10000000000000000000000000000000000000000
  | none=>drawF k (dM k (ns.take 7))
theorem draw_ok (ns : List Int) (k : Nat) (st : Store) (hk : k <= 1000) : F__law_b_draw [.fro (ns.map .int),.int k] st = .ok (.int (drawI ns k)) st:=by
  by_cases h : k < ns.length
  · have h' : (k : Int) < ns.length:=by omega
    have e : ns[k]? = some ns[k]:=List.getElem?_eq_getElem h
    simp [F__law_b_draw,callF,m__law_b_draw,h,atI_map,atI_get e,drawI]
  · have h' : ¬ ((k : Int) < ns.length):=by omega
    have hn : ns[k]? = none:=List.getElem?_eq_none (by omega)
    have hcut : cut ns none (some 7) = ns.take 7:=cut_front ns 7
    have hl : (ns.take 7).length <= lim:=by
      rw [List.length_take,lim_eq]
      omega
    have hd : drawI ns k = drawF k (dM k (ns.take 7)):=by
      unfold drawI; rw [hn]
    rw [hd]
    generalize ns.take 7 = fr at hcut hl ⊢
    obtain ⟨Γ',st',e1,c,rfl,eΓ⟩:=forG_invL (g:=PV.int) (xs:=fr) (ga:=gaName 3)
      (body:=b__law_b_draw_1) (w:=[])
      (Γ:=[some (.fro (ns.map .int)),some (.int k),some (.int (1000003 * (k + 1))),none]) (st:=st)
      (fun pre Γ st'=>∃ (c : Option PV),st' = st /\ Γ = [some (.fro (ns.map .int)),some (.int k),some (.int (dM k pre)),c])
      (fun i Γ st' _=>by simp)
      (fun pre x post Γ st' hx ⟨c,e,eΓ⟩=>by
        subst e; subst eΓ
        refine ⟨_,rfl,[some (.fro (ns.map .int)),some (.int k),some (.int (dM k (pre ++ [x]))),some (.int x)],st',?_,some (.int x),rfl,rfl⟩
        rw [dM_snoc]
        simp [b__law_b_draw_1])
      ⟨none,rfl,by rw [dM_nil]⟩
    subst eΓ
    obtain ⟨hm0,hm1⟩:=dM_bd k hk fr
    generalize dM k fr = m at hm0 hm1 e1 ⊢
    have hb1 : -18446744073709551616 < m /\ m < 18446744073709551616:=by omega
    unfold drawF
    obtain ⟨q,hq⟩ : ∃ q,m * m % 1000000007 = q:=⟨_,rfl⟩
    rw [hq]
    obtain ⟨r,hr⟩ : ∃ r : Int,(q + 7919 * k * k) * 48271 % 2147483647 = r:=⟨_,rfl⟩
    have hr2:=emod_lt ((q + 7919 * k * k) * 48271) (b:=2147483647) (by omega)
    rw [hr] at hr2 ⊢
    have hb2 : -18446744073709551616 < r /\ r < 18446744073709551616:=by omega
    have hk1 : -18446744073709551616 < (k : Int) /\ (k : Int) < 18446744073709551616:=by omega
    simp only [F__law_b_draw,callF,m__law_b_draw]
    simp -implicitDefEqProofs [h,hl,cut_map,hcut,e1,hb1,hq,hk1,hr,hb2]
def stockF (n : Nat) (tb : List (List Int)) : Int:=upto n (fun o=>ent tb o o) - upto n (fun o=>ent tb o n)
theorem rights_sum {n : Nat} {tb : List (List Int)} (z : Sz n tb) : upto n (rightsF tb) = stockF n tb:=by
  rw [upto_congr fun h hh=>rightsF_eq z hh,upto_sub,upto_sub,upto_add,upto_swap n n fun h o=>ent tb o h,stockF]
  omega
def zRow (n : Nat) : List Int:=List.replicate (n + 1) 0
theorem zTab_wt {n : Nat} (h1 : 1 <= n) (h8 : n <= 8) : Wt' n (List.replicate n (zRow n)):=by
  refine ⟨by simp,fun r hr=>?_,fun r hr x hx=>?_,h1,h8⟩
  · rw [List.eq_of_mem_replicate hr]; simp [zRow]
  · rw [List.eq_of_mem_replicate hr] at hx
    rw [List.eq_of_mem_replicate hx]
    exact Int.le_refl _
def putT (tb : List (List Int)) (i j : Nat) (x : Int) : List (List Int):=tb.set i ((tb.getD i []).set j x)
theorem ent_put {n i j : Nat} {tb : List (List Int)} (z : Sz n tb) (hi : i < n) (hj : j <= n) (x : Int) (a b : Nat) : ent (putT tb i j x) a b = if a = i /\ b = j then x else ent tb a b:=by
  unfold ent putT
  have hl:=(z.row hi).2
  by_cases ha : a = i
  · subst ha
    rw [show (tb.set a ((tb.getD a []).set j x)).getD a [] = (tb.getD a []).set j x by rw [List.getD,List.getElem?_set_self (by rw [z.1]; exact hi)]; rfl]
    by_cases hb : b = j
    · subst hb
      rw [if_pos ⟨rfl,rfl⟩,List.getD,List.getElem?_set_self (by omega)]; rfl
    · rw [if_neg (fun q=>hb q.2),List.getD,List.getElem?_set_ne (fun q=>hb q.symm)]; rfl
  · rw [if_neg (fun q=>ha q.1)]
    rw [show (tb.set i ((tb.getD i []).set j x)).getD a [] = tb.getD a [] by rw [List.getD,List.getElem?_set_ne (fun q=>ha q.symm)]; rfl]
theorem upto_delta (n i : Nat) (k : Int) : upto n (fun o=>if o = i then k else 0) = if i < n then k else 0:=by
  induction n with
  | zero=>rfl
  | succ n ih=>
    rw [upto_succ,ih]
    by_cases e : n = i
    · subst e; simp
    · rw [if_neg e]
      by_cases h : i < n
      · rw [if_pos h,if_pos (by omega)]; omega
      · rw [if_neg h,if_neg (by omega)]; omega
theorem putT_sz {n i j : Nat} {tb : List (List Int)} (z : Sz n tb) (hi : i < n) (x : Int) : Sz n (putT tb i j x):=by
  unfold putT
  refine ⟨by rw [List.length_set]; exact z.1,fun r hr=>?_⟩
  rcases List.mem_or_eq_of_mem_set hr with hr | rfl
  · exact z.2 r hr
  · rw [List.length_set]; exact (z.row hi).2
theorem rights_put {n i j : Nat} {tb : List (List Int)} (z : Sz n tb) (hi : i < n) (hj : j <= n) (k : Int) {h : Nat} (hh : h < n) :
    rightsF (putT tb i j (ent tb i j + k)) h = rightsF tb h + (if h = j then k else 0) - (if h = i then k else 0) + (if h = i /\ j = i then k else 0):=by
  have z':=putT_sz (j:=j) z hi (ent tb i j + k)
  have he : ∀ a b,ent (putT tb i j (ent tb i j + k)) a b = ent tb a b + if a = i /\ b = j then k else 0:=fun a b=>by
    rw [ent_put z hi hj]
    split
    · rename_i q; rw [q.1,q.2]
    · omega
  rw [rightsF_eq z' hh,rightsF_eq z hh]
  have c1 : upto n (fun o=>ent (putT tb i j (ent tb i j + k)) o h) = upto n (fun o=>ent tb o h) + if h = j then k else 0:=by
    rw [upto_congr (g:=fun o=>ent tb o h + if o = i then (if h = j then k else 0) else 0) fun o _=>by
      rw [he]
      by_cases q1 : o = i <;> by_cases q2 : h = j <;> simp [q1,q2],upto_add,upto_delta,if_pos hi]
  have c2 : upto n (fun b=>ent (putT tb i j (ent tb i j + k)) h b) + ent (putT tb i j (ent tb i j + k)) h n = upto n (fun b=>ent tb h b) + ent tb h n + if h = i then k else 0:=by
    rw [<- upto_succ,<- upto_succ,upto_congr (g:=fun b=>ent tb h b + if b = j then (if h = i then k else 0) else 0) fun b _=>by
      rw [he]
      by_cases q1 : h = i <;> by_cases q2 : b = j <;> simp [q1,q2],upto_add,upto_delta,if_pos (by omega)]
  rw [c1,c2,he]
  by_cases q1 : h = i <;> by_cases q2 : j = i <;> by_cases q3 : h = j <;> simp [q1,q2,q3] <;> omega
structure Ca (n : Nat) (tb : List (List Int)) : Prop where
  nn : ∀ h,h < n -> 0 <= rightsF tb h
  bz : ∀ h,h < n -> busyF tb h = true -> Rc n tb h
theorem Ca.comes {n : Nat} {tb : List (List Int)} (c : Ca n tb) : comesB n tb = true:=by
  unfold comesB reachF
  rw [Bool.and_eq_true,List.all_eq_true,List.all_eq_true]
  refine ⟨fun h hh=>by simp [c.nn h (List.mem_range.mp hh)],fun h hh=>?_⟩
  have hh:=List.mem_range.mp hh
  cases hb : busyF tb h with
  | false=>simp
  | true=>rw [(known_rc n tb hh).mpr (c.bz h hh hb)]; rfl
theorem Rc.mono {n : Nat} {t1 t2 : List (List Int)} (h : ∀ a b,a < n -> b < n -> ent t1 a b <= ent t2 a b) {g : Nat} (r : Rc n t1 g) : Rc n t2 g:=by
  induction r with
  | @made k hl hm=>
    refine .made hl ?_
    unfold madeF at *
    have:=h k k hl hl
    simp at hm
    simp; omega
  | @lent o k r hl he ih=>
    have:=h o k r.lt hl
    exact .lent ih hl (by omega)
theorem busy_iff {n : Nat} {tb : List (List Int)} (w : Wt' n tb) {h : Nat} (hh : h < n) : busyF tb h = true <-> ∃ j,j <= n /\ j ≠ h /\ 0 < ent tb h j:=by
  rw [<- busy_eq w hh]
  unfold busyR
  rw [List.any_eq_true]
  constructor
  · rintro ⟨j,hj,q⟩
    simp at q
    exact ⟨j,by have:=List.mem_range.mp hj; omega,q.1,q.2⟩
  · rintro ⟨j,hj,q1,q2⟩
    exact ⟨j,List.mem_range.mpr (by omega),by simp [q1,q2]⟩
theorem Ca.make {n i : Nat} {tb : List (List Int)} (w : Wt' n tb) (c : Ca n tb) (hi : i < n) {k : Int} (hk : 0 <= k) (w' : Wt' n (putT tb i i (ent tb i i + k))) : Ca n (putT tb i i (ent tb i i + k)):=by
  have hle : ∀ a b,ent tb a b <= ent (putT tb i i (ent tb i i + k)) a b:=fun a b=>by
    rw [ent_put w.sz hi (Nat.le_of_lt hi)]
    split
    · rename_i q; rw [q.1,q.2]; omega
    · omega
  refine ⟨fun h hh=>?_,fun h hh hb=>?_⟩
  · rw [rights_put w.sz hi (Nat.le_of_lt hi) k hh]
    have:=c.nn h hh
    by_cases q : h = i <;> simp [q] at * <;> omega
  · obtain ⟨j,hj,q1,q2⟩:=(busy_iff w' hh).mp hb
    rw [ent_put w.sz hi (Nat.le_of_lt hi)] at q2
    rw [if_neg (fun q=>q1 (by omega))] at q2
    exact (c.bz h hh ((busy_iff w hh).mpr ⟨j,hj,q1,q2⟩)).mono fun a b _ _=>hle a b
theorem set_cut {α : Type} (xs : List α) (i : Nat) (x : α) (h : i < xs.length) : xs.take i ++ [x] ++ xs.drop (i + 1) = xs.set i x:=by
  rw [List.set_eq_take_append_cons_drop,if_pos h,List.append_assoc]; rfl
theorem raised_ok {n i j : Nat} {tb : List (List Int)} (z : Sz n tb) (hn : n <= 100) (hi : i < n) (hj : j <= n) (k : Int) (st : Store) : F_raised [tabV tb,.int i,.int j,.int k] st = .ok (tabV (putT tb i j (ent tb i j + k))) st:=by
  have c0:=cell_ix z hi hj st
  have hrl:=(z.row hi).2
  have g1 : rowV ((tb.getD i []).set j (ent tb i j + k)) = .tup (((tb.getD i []).take j).map .int ++ [.int (ent tb i j + k)] ++ ((tb.getD i []).drop (j + 1)).map .int):=by
    unfold rowV
    rw [<- set_cut _ _ _ (by omega),List.map_append,List.map_append]; rfl
  have g2 : tabV (putT tb i j (ent tb i j + k)) = .tup ((tb.take i).map rowV ++ [rowV ((tb.getD i []).set j (ent tb i j + k))] ++ (tb.drop (i + 1)).map rowV):=by
    unfold tabV putT
    rw [<- set_cut _ _ _ (by rw [z.1]; exact hi),List.map_append,List.map_append]; rfl
  have c3 : cut ((tb.getD i []).map PV.int) none (some (j : Int)) = ((tb.getD i []).take j).map .int:=by rw [cut_map,cut_front]
  have c4 : cut ((tb.getD i []).map PV.int) (some ((j : Int) + 1)) none = ((tb.getD i []).drop (j + 1)).map .int:=by rw [cut_map]; exact congrArg _ (cut_back _ (j + 1))
  have c5 : cut (tb.map rowV) none (some (i : Int)) = (tb.take i).map rowV:=by rw [cut_map,cut_front]
  have c6 : cut (tb.map rowV) (some ((i : Int) + 1)) none = (tb.drop (i + 1)).map rowV:=by rw [cut_map]; exact congrArg _ (cut_back _ (i + 1))
  have l3 : (((tb.getD i []).take j).map PV.int).length = j:=by rw [List.length_map,List.length_take,hrl]; omega
  have l4 : (((tb.getD i []).drop (j + 1)).map PV.int).length = n - j:=by rw [List.length_map,List.length_drop,hrl]; omega
  have l5 : ((tb.take i).map rowV).length = i:=by rw [List.length_map,List.length_take,z.1]; omega
  have l6 : ((tb.drop (i + 1)).map rowV).length = n - (i + 1):=by rw [List.length_map,List.length_drop,z.1]
  have b1 : j + 1 <= 1000000:=by omega
  have b2 : j + 1 + (n - j) <= 1000000:=by omega
  have b3 : i + 1 <= 1000000:=by omega
  have b4 : i + 1 + (n - (i + 1)) <= 1000000:=by omega
  have hf : fin st (tabV (putT tb i j (ent tb i j + k))) st = .ok (tabV (putT tb i j (ent tb i j + k))) st:=fin_good (by simp [good,tabV,rowV])
  obtain ⟨c1,c2⟩:=c0
  have q1 : oSl st (rowV (tb.getD i [])) none (some (j : Int)) = .ok (.tup (((tb.getD i []).take j).map .int)) st:=by unfold rowV; rw [oSl_tup,c3]
  have q2 : oSl st (rowV (tb.getD i [])) (some ((j : Int) + 1)) none = .ok (.tup (((tb.getD i []).drop (j + 1)).map .int)) st:=by unfold rowV; rw [oSl_tup,c4]
  have q3 : oSl st (tabV tb) none (some (i : Int)) = .ok (.tup ((tb.take i).map rowV)) st:=by unfold tabV; rw [oSl_tup,c5]
  have q4 : oSl st (tabV tb) (some ((i : Int) + 1)) none = .ok (.tup ((tb.drop (i + 1)).map rowV)) st:=by unfold tabV; rw [oSl_tup,c6]
  rw [g2] at hf ⊢
  rw [g1] at hf ⊢
  generalize ent tb i j = x at *
  generalize ((tb.getD i []).take j).map PV.int = v3 at *
  generalize ((tb.getD i []).drop (j + 1)).map PV.int = v4 at *
  generalize (tb.take i).map rowV = v5 at *
  generalize (tb.drop (i + 1)).map rowV = v6 at *
  generalize rowV (tb.getD i []) = rv at *
  generalize tabV tb = T at *
  simp -implicitDefEqProofs at hf
  simp -implicitDefEqProofs [F_raised,callF,m_raised,c1,c2,q1,q2,q3,q4,lim_eq,l3,l4,l5,l6,b1,b2,b3,b4,hf]
structure TabLike (st : Store) (V : PV) (n : Nat) (tb : List (List Int)) : Prop where
  len : cLen st [V] = .ok (.int n) st
  row : ∀ i,i < n -> ∃ R,oIx st V (.int i) = .ok R st /\ ∀ j,j <= n -> oIx st R (.int j) = .ok (.int (ent tb i j)) st
theorem TabLike.tab {n : Nat} {tb : List (List Int)} (z : Sz n tb) (st : Store) : TabLike st (tabV tb) n tb:=
  ⟨by simp [tabV,z.1],fun i hi=>⟨_,(cell_ix z hi (Nat.zero_le n) st).1,fun j hj=>(cell_ix z hi hj st).2⟩⟩
def lrF (tb : List (List Int)) (h i : Nat) : Int:=upto i fun o=>ent tb o h - if o ≠ h then ent tb h o else 0
theorem lrights_ok {st : Store} {V : PV} {n h : Nat} {tb : List (List Int)} (T : TabLike st V n tb) (hn : n <= 100) (hh : h < n) : F__law_b_rights [V,.int h] st = .ok (.int (lrF tb h n - ent tb h n)) st:=by
  have hn1 : -1000000 <= (n : Int) /\ (n : Int) <= 1000000:=by omega
  obtain ⟨Rh,h1,h2⟩:=T.row h hh
  have hln:=T.len
  obtain ⟨Γ',st',e,c',rfl,rfl⟩:=forG_inv (g:=fun k : Nat=>PV.int (k : Int)) (xs:=List.range n) (ga:=gaName 4) (body:=b__law_b_rights_1) (w:=[]) (Γ:=[some V,some (.int h),some (.int n),some (.int 0),none]) (st:=st)
    (fun i Γ st'=>∃ c',Γ = [some V,some (.int h),some (.int n),some (.int (lrF tb h i)),c'] /\ st' = st)
    (fun _ _ _ _=>by simp)
    (fun i o Γ st' hx ⟨c',e1,e2⟩=>by
      subst e1; subst e2
      have hin : i < n:=by simpa using (List.getElem?_eq_some_iff.mp hx).1
      have hxi : o = i:=by
        rw [List.getElem?_range hin] at hx
        exact (Option.some.inj hx).symm
      subst hxi
      obtain ⟨Ro,g1,g2⟩:=T.row o hin
      have g2:=g2 h (Nat.le_of_lt hh)
      have h2:=h2 o (Nat.le_of_lt hin)
      refine ⟨_,rfl,[some V,some (.int h),some (.int n),some (.int (lrF tb h (o + 1))),some (.int o)],st',?_,_,rfl,rfl⟩
      unfold lrF
      rw [upto_succ]
      generalize (upto o fun o=>ent tb o h - if o ≠ h then ent tb h o else 0) = x at *
      generalize ent tb o h = y at *
      generalize ent tb h o = y2 at *
      by_cases q : o = h
      · subst q
        simp -implicitDefEqProofs [b__law_b_rights_1,g1,g2]
      · have q' : ¬ ((o : Int) = h):=by omega
        have eqn : x + (y - y2) = x + y - y2:=by omega
        simp -implicitDefEqProofs [b__law_b_rights_1,g1,g2,q,q',h1,h2,eqn])
    ⟨none,rfl,rfl⟩
  rw [List.length_range] at e
  rw [<- rangeI0] at e
  have h2:=h2 n (Nat.le_refl n)
  generalize lrF tb h n = x at *
  generalize ent tb h n = y at *
  simp -implicitDefEqProofs [F__law_b_rights,callF,m__law_b_rights,hln,hn1,lim_eq,e,h1,h2]
theorem lr_eq {n h : Nat} {tb : List (List Int)} (z : Sz n tb) (hh : h < n) : lrF tb h n - ent tb h n = rightsF tb h:=by
  rw [rightsF_eq z hh]
  unfold lrF
  rw [upto_sub,upto_but (fun j=>ent tb h j) hh]
  omega
theorem busy_run {T : PV} {R : List PV} {bs : List Bool} {x y : Int} {st : Store} (hln : cLen st [T] = .ok (.int y) st) (hr : mRange1 (mCons (mOp oAdd (mVar 2) (mC (.int 1))) mNil) [some T,some (.int x),some (.int y)] st = .ok (R,[]) st)
    (hc : compG (gaName 0) t__law_b_busy_1 e__law_b_busy_1 [] (capG [none,some 0,some 1] [some T,some (.int x),some (.int y)]) R st = .ok (bs.map .bl) st) : F__law_b_busy [T,.int x] st = .ok (.bl (bs.any id)) st:=by
  simp -implicitDefEqProofs [F__law_b_busy,callF,m__law_b_busy,hln,hc,hr,-mRange1_eq]
theorem range_run {n : Nat} (hn : n <= 100) {T : PV} {x : Int} (st : Store) : mRange1 (mCons (mOp oAdd (mVar 2) (mC (.int 1))) mNil) [some T,some (.int x),some (.int n)] st = .ok (rangeI 0 ((n : Int) + 1).toNat,[]) st:=by
  have hn1 : -1000000 <= (n : Int) + 1 /\ (n : Int) + 1 <= 1000000:=by omega
  simp -implicitDefEqProofs [lim_eq,hn1]
theorem busyR_any (n h : Nat) (tb : List (List Int)) : busyR n tb h = (((List.range (n + 1)).filter fun j=>decide (j ≠ h)).map fun j=>decide (0 < ent tb h j)).any id:=by
  rw [any_id,List.any_filter]; rfl
theorem busy_comp {n h : Nat} {tb : List (List Int)} (z : Sz n tb) (hh : h < n) (st : Store) : compG (gaName 0) t__law_b_busy_1 e__law_b_busy_1 [] (capG [none,some 0,some 1] [some (tabV tb),some (.int h),some (.int n)]) (rangeI 0 (n + 1)) st = .ok ((((List.range (n + 1)).filter fun j=>decide (j ≠ h)).map fun j=>decide (0 < ent tb h j)).map .bl) st:=by
  rw [rangeI0,List.map_map]
  refine compG_onF _ _ _ (by simp) fun j hj=>⟨_,rfl,?_,fun ht=>?_⟩
  · by_cases e : j = h
    · simp [capG,t__law_b_busy_1,e]
    · have : ¬ ((j : Int) = h):=by omega
      simp [capG,t__law_b_busy_1,e,this]
  · obtain ⟨c1,c2⟩:=cell_ix z hh (show j <= n by have:=List.mem_range.mp hj; omega) st
    show _ = Res.ok (PV.bl (decide (0 < ent tb h j))) st
    generalize ent tb h j = x at *
    generalize tb.getD h [] = r at *
    simp [capG,e__law_b_busy_1,c1,c2]
theorem busyR_ok {n h : Nat} {tb : List (List Int)} (z : Sz n tb) (hn : n <= 100) (hh : h < n) (st : Store) : F__law_b_busy [tabV tb,.int h] st = .ok (.bl (busyR n tb h)) st:=by
  rw [busyR_any]
  have hn2 : ((n : Int) + 1).toNat = n + 1:=by omega
  have hr:=range_run hn (T:=tabV tb) (x:=h) st
  rw [hn2] at hr
  exact busy_run (by simp [tabV,z.1]) hr (busy_comp z hh st)
def rb2 (n : Nat) (tb : List (List Int)) (h pl : Nat) : List (List Int):=putT (putT tb h h (ent tb h h + (-1))) h pl (ent (putT tb h h (ent tb h h + (-1))) h pl + (-1))
def restB (n : Nat) (tb : List (List Int)) (h pl : Nat) : List (List Int):=if pl = n then rb2 n tb h pl else putT (rb2 n tb h pl) pl pl (ent (rb2 n tb h pl) pl pl + 1)
structure Op (n : Nat) (tb : List (List Int)) (h pl : Nat) : Prop where
  hh : h < n
  hp : pl <= n
  ne : pl ≠ h
  d : 0 < ent tb h h
  o : 0 < ent tb h pl
section
variable {n : Nat} {tb : List (List Int)} {h pl : Nat}
theorem rb_sz (z : Sz n tb) (hh : h < n) (hp : pl <= n) : Sz n (restB n tb h pl):=by
  have z2 : Sz n (rb2 n tb h pl):=putT_sz (putT_sz z hh _) hh _
  unfold restB
  split
  · exact z2
  · exact putT_sz z2 (by omega) _
theorem rb_ent (z : Sz n tb) (hh : h < n) (hp : pl <= n) (hne : pl ≠ h) (a b : Nat) : ent (restB n tb h pl) a b = ent tb a b - (if a = h /\ b = h then 1 else 0) - (if a = h /\ b = pl then 1 else 0) + (if pl < n /\ a = pl /\ b = pl then 1 else 0):=by
  have z1:=putT_sz (j:=h) z hh (ent tb h h + (-1))
  have e1 : ∀ a b,ent (putT tb h h (ent tb h h + (-1))) a b = ent tb a b - (if a = h /\ b = h then 1 else 0):=fun a b=>by
    rw [ent_put z hh (Nat.le_of_lt hh)]
    split
    · rename_i q; rw [q.1,q.2]; omega
    · omega
  have z2 : Sz n (rb2 n tb h pl):=putT_sz z1 hh _
  have e2 : ∀ a b,ent (rb2 n tb h pl) a b = ent tb a b - (if a = h /\ b = h then 1 else 0) - (if a = h /\ b = pl then 1 else 0):=fun a b=>by
    unfold rb2
    rw [ent_put z1 hh hp]
    by_cases q : a = h /\ b = pl
    · rw [if_pos q,if_pos q,q.1,q.2,e1]; omega
    · rw [if_neg q,if_neg q,e1]; omega
  unfold restB
  by_cases hn : pl = n
  · rw [if_pos hn,e2,if_neg (show ¬ (pl < n /\ a = pl /\ b = pl) by omega)]; omega
  · rw [if_neg hn,ent_put z2 (by omega) hp]
    by_cases q : a = pl /\ b = pl
    · rw [if_pos q,if_pos (show pl < n /\ a = pl /\ b = pl from ⟨by omega,q⟩),q.1,q.2,e2]
    · rw [if_neg q,if_neg (show ¬ (pl < n /\ a = pl /\ b = pl) from fun y=>q y.2),e2]; omega
theorem rb_rights (z : Sz n tb) (hh : h < n) (hp : pl <= n) (hne : pl ≠ h) {g : Nat} (hg : g < n) : rightsF (restB n tb h pl) g = rightsF tb g:=by
  have z1:=putT_sz (j:=h) z hh (ent tb h h + (-1))
  have z2 : Sz n (rb2 n tb h pl):=putT_sz z1 hh _
  have r1:=rights_put z hh (Nat.le_of_lt hh) (-1) hg
  have r2 : rightsF (rb2 n tb h pl) g = _:=rights_put z1 hh hp (-1) hg
  rw [r1] at r2
  unfold restB
  by_cases hn : pl = n
  · rw [if_pos hn,r2]
    have : ¬ g = pl:=by omega
    by_cases a : g = h <;> simp [a,this,hne] <;> omega
  · rw [if_neg hn,rights_put z2 (by omega) hp 1 hg,r2]
    by_cases a : g = h <;> by_cases b : g = pl <;> simp [a,b,hne] <;> omega
theorem rb_wt (w : Wt' n tb) (o : Op n tb h pl) : Wt' n (restB n tb h pl):=Wt'.of_ent (rb_sz w.sz o.hh o.hp) w.n1 w.n8 fun i j hi hj=>by
  rw [rb_ent w.sz o.hh o.hp o.ne]
  have h1:=w.ent_nn hi hj
  have h2:=o.d
  have h3:=o.o
  have h4:=o.ne
  by_cases a : i = h /\ j = h
  · rw [if_pos a,if_neg (show ¬ (i = h /\ j = pl) by omega),a.1,a.2]
    split <;> omega
  · rw [if_neg a]
    by_cases b : i = h /\ j = pl
    · rw [if_pos b,b.1,b.2]
      split <;> omega
    · rw [if_neg b]
      split <;> omega
theorem rb_row (w : Wt' n tb) (o : Op n tb h pl) {a b : Nat} (ha : a ≠ h) : ent tb a b <= ent (restB n tb h pl) a b:=by
  rw [rb_ent w.sz o.hh o.hp o.ne,if_neg (fun q=>ha q.1),if_neg (fun q=>ha q.1)]
  split <;> omega
theorem rb_pl (w : Wt' n tb) (o : Op n tb h pl) (hpl : pl < n) : 0 < ent (restB n tb h pl) pl pl:=by
  rw [rb_ent w.sz o.hh o.hp o.ne,if_neg (fun q=>o.ne q.1),if_neg (fun q=>o.ne q.1),if_pos ⟨hpl,rfl,rfl⟩]
  have:=w.ent_nn hpl o.hp
  omega
theorem rb_h (w : Wt' n tb) (o : Op n tb h pl) {b : Nat} (h1 : b ≠ h) (h2 : b ≠ pl) : ent (restB n tb h pl) h b = ent tb h b:=by
  rw [rb_ent w.sz o.hh o.hp o.ne,if_neg (fun q=>h1 q.2),if_neg (fun q=>h2 q.2),if_neg (fun q=>h2 q.2.2)]; omega
theorem made_of {t : List (List Int)} {g : Nat} (hg : g < n) (he : 0 < ent t g g) : Rc n t g:=.made hg (by unfold madeF; simp [he])
theorem made_ent {t : List (List Int)} {g : Nat} (m : madeF t g = true) : 0 < ent t g g:=by unfold madeF at m; simpa using m
theorem rb_keep (w : Wt' n tb) (o : Op n tb h pl) (hR : Rc n (restB n tb h pl) h) {g : Nat} (r : Rc n tb g) : Rc n (restB n tb h pl) g:=by
  induction r with
  | @made g hg m=>
    by_cases e : g = h
    · rw [e]; exact hR
    · have:=made_ent m
      have:=rb_row w o (a:=g) (b:=g) e
      exact made_of hg (by omega)
  | @lent a g r hg he ih=>
    by_cases e : a = h
    · subst e
      by_cases e1 : g = a
      · rw [e1]; exact hR
      · by_cases e2 : g = pl
        · rw [e2]; exact made_of (by omega) (rb_pl w o (by omega))
        · exact .lent ih hg (by rw [rb_h w o e1 e2]; exact he)
    · have:=rb_row w o (a:=a) (b:=g) e
      exact .lent ih hg (by omega)
theorem rb_keep2 (w : Wt' n tb) (o : Op n tb h pl) (hnb : ∀ j,j <= n -> j ≠ h -> ¬ 0 < ent (restB n tb h pl) h j) {g : Nat} (r : Rc n tb g) : g = h \/ Rc n (restB n tb h pl) g:=by
  induction r with
  | @made g hg m=>
    by_cases e : g = h
    · exact .inl e
    · have:=made_ent m
      have:=rb_row w o (a:=g) (b:=g) e
      exact .inr (made_of hg (by omega))
  | @lent a g r hg he ih=>
    by_cases e1 : g = h
    · exact .inl e1
    · right
      by_cases e : a = h
      · subst e
        by_cases e2 : g = pl
        · rw [e2]; exact made_of (by omega) (rb_pl w o (by omega))
        · exact absurd (by rw [rb_h w o e1 e2]; exact he) (hnb g (Nat.le_of_lt hg) e1)
      · have:=rb_row w o (a:=a) (b:=g) e
        exact .lent (ih.resolve_left e) hg (by omega)
inductive Av (n : Nat) (tb : List (List Int)) (h : Nat) (x : Option Nat) : Nat -> Prop
  | src {g : Nat} : g < n -> g ≠ h -> (0 < ent tb g g \/ x = some g) -> Av n tb h x g
  | ed {a g : Nat} : Av n tb h x a -> a ≠ h -> g < n -> 0 < ent tb a g -> Av n tb h x g
theorem Av.rc (w : Wt' n tb) (o : Op n tb h pl) {x : Option Nat} (hx : x = none \/ x = some pl) {g : Nat} (r : Av n tb h x g) : Rc n (restB n tb h pl) g:=by
  induction r with
  | @src g hg ne c=>
    rcases c with c | c
    · have:=rb_row w o (a:=g) (b:=g) ne
      exact made_of hg (by omega)
    · rcases hx with hx | hx
      · rw [hx] at c; cases c
      · rw [hx] at c; cases c
        exact made_of hg (rb_pl w o hg)
  | @ed a g r ne hg he ih=>
    have:=rb_row w o (a:=a) (b:=g) ne
    exact .lent ih hg (by omega)
theorem rc_av {g : Nat} (r : Rc n tb g) : g = h \/ Av n tb h none g \/ ∃ q,q < n /\ q ≠ h /\ 0 < ent tb h q /\ Av n tb h (some q) g:=by
  induction r with
  | @made g hg m=>
    by_cases e : g = h
    · exact .inl e
    · exact .inr (.inl (.src hg e (.inl (made_ent m))))
  | @lent a g r hg he ih=>
    by_cases e1 : g = h
    · exact .inl e1
    · by_cases e : a = h
      · subst e
        exact .inr (.inr ⟨g,hg,e1,he,.src hg e1 (.inr rfl)⟩)
      · rcases ih with z | z | ⟨q,q1,q2,q3,z⟩
        · exact absurd z e
        · exact .inr (.inl (.ed z e hg he))
        · exact .inr (.inr ⟨q,q1,q2,q3,.ed z e hg he⟩)
theorem ex_source (w : Wt' n tb) {g : Nat} (r : Rc n tb g) (hb : busyF tb g = true) : ∃ h,h < n /\ busyF tb h = true /\ 0 < ent tb h h:=by
  induction r with
  | @made g hg m=>exact ⟨g,hg,hb,made_ent m⟩
  | @lent a g r hg he ih=>
    by_cases e : a = g
    · subst e; exact ⟨a,hg,hb,he⟩
    · exact ih ((busy_iff w r.lt).mpr ⟨g,Nat.le_of_lt hg,fun z=>e z.symm,he⟩)
theorem rb_busy (w : Wt' n tb) (o : Op n tb h pl) {g : Nat} (hg : g < n) (b : busyF (restB n tb h pl) g = true) : busyF tb g = true:=by
  obtain ⟨j,hj,hne,he⟩:=(busy_iff (rb_wt w o) hg).mp b
  refine (busy_iff w hg).mpr ⟨j,hj,hne,?_⟩
  rw [rb_ent w.sz o.hh o.hp o.ne,if_neg (show ¬ (pl < n /\ g = pl /\ j = pl) by omega)] at he
  split at he <;> split at he <;> omega
theorem ex_step (w : Wt' n tb) (c : Ca n tb) (hb : ∃ g,g < n /\ busyF tb g = true) : ∃ h pl,Op n tb h pl /\ Ca n (restB n tb h pl):=by
  obtain ⟨g,hg,hgb⟩:=hb
  obtain ⟨h,hh,hbz,hd⟩:=ex_source w (c.bz g hg hgb) hgb
  obtain ⟨pl,hp,hne,he⟩:=(busy_iff w hh).mp hbz
  have fin : ∀ pl,Op n tb h pl -> Rc n (restB n tb h pl) h -> ∃ h pl,Op n tb h pl /\ Ca n (restB n tb h pl):=fun pl o hR=>
    ⟨h,pl,o,fun g hg=>by rw [rb_rights w.sz o.hh o.hp o.ne hg]; exact c.nn g hg,fun g hg b=>rb_keep w o hR (c.bz g hg (rb_busy w o hg b))⟩
  have o : Op n tb h pl:=⟨hh,hp,hne,hd,he⟩
  by_cases h2 : 2 <= ent tb h h
  · refine fin pl o (made_of hh ?_)
    rw [rb_ent w.sz o.hh o.hp o.ne,if_pos ⟨rfl,rfl⟩,if_neg (show ¬ (h = h /\ h = pl) from fun q=>hne q.2.symm),if_neg (show ¬ (pl < n /\ h = pl /\ h = pl) from fun q=>hne q.2.1.symm)]
    omega
  · by_cases hb' : busyF (restB n tb h pl) h = true
    · have w':=rb_wt w o
      have hdz : ent (restB n tb h pl) h h = 0:=by
        rw [rb_ent w.sz o.hh o.hp o.ne,if_pos ⟨rfl,rfl⟩,if_neg (show ¬ (h = h /\ h = pl) from fun q=>hne q.2.symm),if_neg (show ¬ (pl < n /\ h = pl /\ h = pl) from fun q=>hne q.2.1.symm)]
        omega
      have hr : 0 <= rightsF (restB n tb h pl) h:=by rw [rb_rights w.sz o.hh o.hp o.ne hh]; exact c.nn h hh
      have : ∃ a,a < n /\ 0 < ent (restB n tb h pl) a h:=by
        refine Classical.byContradiction fun q=>?_
        have hc : upto n (fun a=>ent (restB n tb h pl) a h) = upto n fun _=>0:=upto_congr fun a ha=>by
          have h1:=w'.ent_nn ha (Nat.le_of_lt hh)
          have h2 : ¬ 0 < ent (restB n tb h pl) a h:=fun z=>q ⟨a,ha,z⟩
          omega
        rw [upto_zero] at hc
        unfold rightsF at hr
        rw [w'.len,hc] at hr
        unfold busyF at hb'
        rw [decide_eq_true_eq] at hb'
        omega
      obtain ⟨a,ha,hae⟩:=this
      have hah : a ≠ h:=fun z=>by rw [z,hdz] at hae; omega
      have hat : 0 < ent tb a h:=by
        rw [rb_ent w.sz o.hh o.hp o.ne,if_neg (fun q=>hah q.1),if_neg (fun q=>hah q.1),if_neg (show ¬ (pl < n /\ a = pl /\ h = pl) from fun q=>hne q.2.2.symm)] at hae
        omega
      have hr:=c.bz a ha ((busy_iff w ha).mpr ⟨h,Nat.le_of_lt hh,fun z=>hah z.symm,hat⟩)
      rcases rc_av (h:=h) hr with z | z | ⟨q,q1,q2,q3,z⟩
      · exact absurd z hah
      · exact fin pl o (Av.rc w o (.inl rfl) (.ed z hah hh hat))
      · have oq : Op n tb h q:=⟨hh,Nat.le_of_lt q1,q2,hd,q3⟩
        exact fin q oq (Av.rc w oq (.inr rfl) (.ed z hah hh hat))
    · refine ⟨h,pl,o,fun g hg=>by rw [rb_rights w.sz o.hh o.hp o.ne hg]; exact c.nn g hg,fun g hg b=>?_⟩
      have hgh : g ≠ h:=fun z=>hb' (z ▸ b)
      refine (rb_keep2 w o (fun j hj hjh z=>hb' ((busy_iff (rb_wt w o) hh).mpr ⟨j,hj,hjh,z⟩)) (c.bz g hg (rb_busy w o hg b))).resolve_left hgh
end
theorem rest_ok {n h pl : Nat} {tb : List (List Int)} (z : Sz n tb) (hn : n <= 100) (hh : h < n) (hp : pl <= n) (st : Store) : F_rest_behind [tabV tb,.int h,.int pl] st = .ok (tabV (restB n tb h pl)) st:=by
  have z1:=putT_sz (j:=h) z hh (ent tb h h + (-1))
  have z2 : Sz n (rb2 n tb h pl):=putT_sz z1 hh _
  have e1:=raised_ok z hn hh (Nat.le_of_lt hh) (-1) st
  have e2 : F_raised [tabV (putT tb h h (ent tb h h + (-1))),.int h,.int pl,.int (-1)] st = .ok (tabV (rb2 n tb h pl)) st:=raised_ok z1 hn hh hp (-1) st
  have hl : cLen st [tabV tb] = .ok (.int n) st:=by unfold tabV; simp [z.1]
  have g2 : fin st (tabV (rb2 n tb h pl)) st = .ok (tabV (rb2 n tb h pl)) st:=fin_good (by simp [good,tabV,rowV])
  by_cases q : pl = n
  · have er : restB n tb h pl = rb2 n tb h pl:=by unfold restB; rw [if_pos q]
    rw [er]
    clear er z1 z2
    subst q
    generalize tabV (rb2 pl tb h pl) = T2 at *
    generalize tabV (putT tb h h (ent tb h h + (-1))) = T1 at *
    generalize tabV tb = T at *
    simp -implicitDefEqProofs [F_rest_behind,callF,m_rest_behind,e1,e2,hl,g2]
  · have hpl : pl < n:=by omega
    have er : restB n tb h pl = putT (rb2 n tb h pl) pl pl (ent (rb2 n tb h pl) pl pl + 1):=by unfold restB; rw [if_neg q]
    have e3:=raised_ok z2 hn hpl hp 1 st
    rw [<- er] at e3
    have g3 : fin st (tabV (restB n tb h pl)) st = .ok (tabV (restB n tb h pl)) st:=fin_good (by simp [good,tabV,rowV])
    have q' : ((pl : Int) == (n : Int)) = false:=by rw [beq_eq_false_iff_ne]; omega
    have q2 : ¬ (pl : Int) = (n : Int):=by omega
    clear er z1 z2
    generalize tabV (restB n tb h pl) = T3 at *
    generalize tabV (rb2 n tb h pl) = T2 at *
    generalize tabV (putT tb h h (ent tb h h + (-1))) = T1 at *
    generalize tabV tb = T at *
    simp -implicitDefEqProofs [F_rest_behind,callF,m_rest_behind,e1,e2,e3,hl,q',q,g3]
def opRow (n : Nat) (tb : List (List Int)) (h : Nat) : List (Nat × Nat):=if madeF tb h = true then ((List.range (n + 1)).filter fun pl=>decide (pl ≠ h) && decide (0 < ent tb h pl)).map fun pl=>(h,pl) else []
def openU (n : Nat) (tb : List (List Int)) : Nat -> List (Nat × Nat)
  | 0=>[]
  | k + 1=>openU n tb k ++ opRow n tb k
def plV (z : Nat × Nat) : PV:=.tup [.int z.1,.int z.2]
theorem opRow_len (n : Nat) (tb : List (List Int)) (h : Nat) : (opRow n tb h).length <= n + 1:=by
  unfold opRow
  split
  · rw [List.length_map]
    exact Nat.le_trans (List.length_filter_le _ _) (by rw [List.length_range]; exact Nat.le_refl _)
  · simp
theorem openU_len (n : Nat) (tb : List (List Int)) : ∀ k,(openU n tb k).length <= k * (n + 1)
  | 0=>by simp [openU]
  | k + 1=>by
    have:=openU_len n tb k
    have:=opRow_len n tb k
    rw [openU,List.length_append,Nat.succ_mul]; omega
theorem openU_mem {n : Nat} {tb : List (List Int)} {z : Nat × Nat} : ∀ {k : Nat},k <= n -> (z ∈ openU n tb k <-> z.1 < k /\ Op n tb z.1 z.2)
  | 0,_=>by simp [openU]
  | k + 1,hk=>by
    rw [openU,List.mem_append,openU_mem (by omega)]
    constructor
    · rintro (⟨a,b⟩ | a)
      · exact ⟨by omega,b⟩
      · unfold opRow at a
        split at a
        · rename_i m
          obtain ⟨pl,hpl,rfl⟩:=List.mem_map.mp a
          obtain ⟨h1,h2⟩:=List.mem_filter.mp hpl
          simp at h2
          have:=List.mem_range.mp h1
          exact ⟨by show k < k + 1; omega,⟨by show k < n; omega,by show pl <= n; omega,h2.1,made_ent m,h2.2⟩⟩
        · cases a
    · rintro ⟨a,b⟩
      by_cases e : z.1 < k
      · exact .inl ⟨e,b⟩
      · right
        have e : z.1 = k:=by omega
        have hd:=b.d
        rw [e] at hd
        unfold opRow
        rw [if_pos (show madeF tb k = true by unfold madeF; simp [hd])]
        refine List.mem_map.mpr ⟨z.2,List.mem_filter.mpr ⟨List.mem_range.mpr (by have:=b.hp; omega),?_⟩,by rw [<- e]⟩
        have h1:=b.ne
        have h2:=b.o
        rw [e] at h1 h2
        simp [h1,h2]
theorem open_turn {n h : Nat} {tb : List (List Int)} (z : Sz n tb) (hn : n <= 8) (hh : h < n) {os : List (Nat × Nat)} (hl : os.length <= 100) {st : Store} {p : Nat} (hp : st[p]? = some (.lst (os.map plV))) :
    b_open_places_1 [some (tabV tb),some (.ref p),some (.int h),some (rowV (tb.getD h []))] st = .nx [some (tabV tb),some (.ref p),some (.int h),some (rowV (tb.getD h []))] (st.set p (.lst ((os ++ opRow n tb h).map plV))):=by
  have e1:=made_ok z hh st
  cases hm : madeF tb h with
  | false=>
    rw [hm] at e1
    have er : opRow n tb h = []:=by unfold opRow; rw [if_neg (by rw [hm]; exact Bool.false_ne_true)]
    have es : st.set p (.lst (os.map plV)) = st:=by
      refine List.ext_getElem? fun i=>?_
      by_cases q : p = i
      · subst q; rw [List.getElem?_set_self (List.getElem?_eq_some_iff.mp hp).1,hp]
      · rw [List.getElem?_set_ne q]
    rw [er,List.append_nil,es]
    generalize tabV tb = T at *
    generalize rowV (tb.getD h []) = r at *
    simp -implicitDefEqProofs [b_open_places_1,e1]
  | true=>
    rw [hm] at e1
    have er : opRow n tb h = ((List.range (n + 1)).filter fun pl=>decide (pl ≠ h) && decide (0 < ent tb h pl)).map fun pl=>(h,pl):=by unfold opRow; rw [if_pos hm]
    have hc : compG (gaName 0) t_open_places_1 e_open_places_1 [] (capG [none,some 2,some 3] [some (tabV tb),some (.ref p),some (.int h),some (rowV (tb.getD h []))]) (rangeI 0 (n + 1)) st = .ok ((opRow n tb h).map plV) st:=by
      rw [rangeI0,er,List.map_map]
      refine compG_onF (fun k : Nat=>PV.int (k : Int)) _ (fun pl=>decide (pl ≠ h) && decide (0 < ent tb h pl)) (by simp) fun pl hpl=>⟨_,rfl,?_,fun _=>?_⟩
      · have hpl':=List.mem_range.mp hpl
        have c:=(cell_ix z hh (show pl <= n by omega) st).2
        generalize tabV tb = T at *
        generalize rowV (tb.getD h []) = r at *
        by_cases e : pl = h
        · subst e; simp [capG,t_open_places_1]
        · have : ((pl : Int) == (h : Int)) = false:=by rw [beq_eq_false_iff_ne]; omega
          simp [capG,t_open_places_1,this,e,c]
      · generalize tabV tb = T at *
        generalize rowV (tb.getD h []) = r at *
        simp [capG,e_open_places_1,plV,lim_eq]
    have hlr : cLen st [rowV (tb.getD h [])] = .ok (.int ((n : Int) + 1)) st:=by
      have:=(z.row hh).2
      generalize tb.getD h [] = r at *
      unfold rowV
      simp [this]
    have hll : (os.map plV).length + ((opRow n tb h).map plV).length <= 1000000:=by
      have:=opRow_len n tb h
      rw [List.length_map,List.length_map]; omega
    have hmm : (os ++ opRow n tb h).map plV = os.map plV ++ (opRow n tb h).map plV:=List.map_append
    have hr : -1000000 <= (n : Int) + 1 /\ (n : Int) + 1 <= 1000000:=by omega
    have ht : ((n : Int) + 1).toNat = n + 1:=by omega
    rw [hmm]
    clear er
    generalize tabV tb = T at *
    generalize rowV (tb.getD h []) = r at *
    generalize os.map plV = ov at *
    generalize (opRow n tb h).map plV = rv at *
    simp -implicitDefEqProofs [b_open_places_1,e1,hlr,lim_eq,hr,ht,hc,mtExtend,chg,hp,hll,-cLen_r]
theorem open_ok {n : Nat} {tb : List (List Int)} (z : Sz n tb) (hn : n <= 8) (st : Store) : F_open_places [tabV tb] st = .ok (.lst ((openU n tb n).map plV)) st:=by
  obtain ⟨Γ',S',e,b2,b3,rfl,hS,hpre⟩:=forG_inv (g:=fun k : Nat=>PV.tup [.int k,rowV (tb.getD k [])]) (xs:=List.range n) (ga:=gaTup (gaCons (gaName 2) (gaCons (gaName 3) gaNil))) (body:=b_open_places_1) (w:=[]) (Γ:=[some (tabV tb),some (.ref st.length),none,none]) (st:=st ++ [.lst []])
    (fun i Γ st'=>∃ b2 b3 : Option PV,Γ = [some (tabV tb),some (.ref st.length),b2,b3] /\ st'[st.length]? = some (.lst ((openU n tb i).map plV)) /\ st' = st ++ [.lst ((openU n tb i).map plV)])
    (fun _ _ _ _=>by simp)
    (fun i x Γ st' hx ⟨b2,b3,g1,g2,g3⟩=>by
      subst g1
      have hin : i < n:=by simpa using (List.getElem?_eq_some_iff.mp hx).1
      have hxi : x = i:=by
        rw [List.getElem?_range hin] at hx
        exact (Option.some.inj hx).symm
      subst hxi
      have hl:=openU_len n tb x
      have hb : x * (n + 1) <= 8 * 9:=Nat.mul_le_mul (by omega) (by omega)
      have e:=open_turn z hn hin (by omega) g2
      refine ⟨_,rfl,_,_,e,_,_,rfl,?_,?_⟩
      · rw [List.getElem?_set_self (List.getElem?_eq_some_iff.mp g2).1]; rfl
      · rw [g3]
        show _ = st ++ [Cell.lst ((openU n tb (x + 1)).map plV)]
        rw [List.set_append_right _ _ (Nat.le_refl _),Nat.sub_self]; rfl)
    ⟨_,_,rfl,by simp [openU],rfl⟩
  rw [List.length_range] at hS hpre
  have en : enumT 0 (tb.map rowV) = (List.range n).map fun k : Nat=>PV.tup [.int k,rowV (tb.getD k [])]:=by
    rw [enumT_map,zipIdx_map tb [],z.1]
  have hl : (tb.map rowV).length <= 1000000:=by rw [List.length_map,z.1]; omega
  have hfin : fin st (.ref st.length) S' = .ok (.lst ((openU n tb n).map plV)) st:=by
    have hp : st <+: S':=by rw [hpre]; exact List.prefix_append _ _
    have hg : good 12 (.lst ((openU n tb n).map plV)) = true:=by simp [good,plV]
    have hz:=fz_good (n:=st.length) (st:=S') (k:=16) hg (by decide)
    unfold fin
    rw [if_pos hp,fz,if_neg (by omega),hS]
    rw [fz] at hz
    show okO st ((fzL st.length S' 15 ((openU n tb n).map plV)).map PV.lst) = _
    rw [hz]
    rfl
  rw [<- en] at e
  unfold tabV at *
  generalize tb.map rowV = T at *
  clear hpre hS en
  simp -implicitDefEqProofs [F_open_places,callF,m_open_places,hl,lim_eq,e,hfin]
theorem Ca.of_reach {n : Nat} {tb : List (List Int)} (nn : ∀ h,h < n -> 0 <= rightsF tb h) (r : reachF n tb = true) : Ca n tb:=by
  refine ⟨nn,fun h hh hb=>?_⟩
  unfold reachF at r
  have:=List.all_eq_true.mp r h (List.mem_range.mpr hh)
  rw [hb,Bool.not_true,Bool.or_false] at this
  exact (known_rc n tb hh).mp this
theorem Ca.reach {n : Nat} {tb : List (List Int)} (c : Ca n tb) : reachF n tb = true:=by
  have:=c.comes
  unfold comesB at this
  exact (Bool.and_eq_true _ _ ▸ this).2
def NP (n : Nat) (tb : List (List Int)) (v : PV) : Prop:=(v = .non /\ ∀ g,g < n -> busyF tb g = false) \/ ∃ h pl,v = plV (h,pl) /\ Op n tb h pl /\ Ca n (restB n tb h pl)
theorem next_ok {n : Nat} {tb : List (List Int)} (w : Wt' n tb) (c : Ca n tb) (st : Store) : ∃ v,NP n tb v /\ F_next_place [tabV tb] st = .ok v st:=by
  have h8:=w.n8
  have e1:=open_ok w.sz h8 st
  have key:=forG_first (g:=plV) (J:=fun Γ=>∃ a b : Option PV,Γ = [some (tabV tb),a,b]) (Pd:=fun z=>!reachF n (restB n tb z.1 z.2)) (v:=plV) (ga:=gaTup (gaCons (gaName 1) (gaCons (gaName 2) gaNil))) (body:=b_next_place_1) (w:=[]) (st:=st) (by simp) (xs:=openU n tb n)
    (fun z hz Γ ⟨a,b,g⟩=>by
      subst g
      obtain ⟨_,o⟩:=(openU_mem (Nat.le_refl n)).mp hz
      have e2:=rest_ok w.sz (by omega) o.hh o.hp st
      obtain ⟨us,ul,uz,e3⟩:=rootless_houses_okF (rb_sz w.sz o.hh o.hp) (by omega) st
      have hlen : (us.map intV).length = us.length:=List.length_map _
      refine ⟨[some (tabV tb),some (.int z.1),some (.int z.2)],rfl,fun hr=>⟨[some (tabV tb),some (.int z.1),some (.int z.2)],⟨_,_,rfl⟩,?_⟩,fun hr=>?_⟩
      · have hne : us ≠ []:=fun q=>by rw [uz.mp q] at hr; cases hr
        have hpos : 0 < us.length:=List.length_pos_iff.mpr hne
        have hz0 : ¬ us.length = 0:=by omega
        clear uz hr
        generalize us.map intV = uv at *
        generalize tabV (restB n tb z.1 z.2) = T2 at *
        generalize tabV tb = T at *
        generalize us.length = l at *
        simp -implicitDefEqProofs [b_next_place_1,e2,e3,hlen,hz0]
      · have hnil : us = []:=uz.mpr (by cases q : reachF n (restB n tb z.1 z.2) with
          | true=>rfl
          | false=>rw [q] at hr; cases hr)
        subst hnil
        clear uz hr
        unfold plV
        generalize tabV (restB n tb z.1 z.2) = T2 at *
        generalize tabV tb = T at *
        simp -implicitDefEqProofs [b_next_place_1,e2,e3,lim_eq])
    [some (tabV tb),none,none] ⟨_,_,rfl⟩
  obtain ⟨k1,k2⟩:=key
  have hol : ((openU n tb n).map plV).length <= 1000000:=by
    have:=openU_len n tb n
    have : n * (n + 1) <= 8 * 9:=Nat.mul_le_mul h8 (by omega)
    rw [List.length_map]; omega
  cases ha : (openU n tb n).all fun z=>!reachF n (restB n tb z.1 z.2) with
  | true=>
    obtain ⟨Γ',⟨a,b,rfl⟩,e⟩:=k1 ha
    have hnb : ∀ g,g < n -> busyF tb g = false:=fun g hg=>by
      cases hb : busyF tb g with
      | false=>rfl
      | true=>
        obtain ⟨h,pl,o,c'⟩:=ex_step w c ⟨g,hg,hb⟩
        have:=List.all_eq_true.mp ha (h,pl) ((openU_mem (Nat.le_refl n)).mpr ⟨o.hh,o⟩)
        rw [c'.reach] at this
        cases this
    refine ⟨.non,.inl ⟨rfl,hnb⟩,?_⟩
    clear k1 k2 ha hnb
    generalize (openU n tb n).map plV = ov at *
    generalize tabV tb = T at *
    simp -implicitDefEqProofs [F_next_place,callF,m_next_place,e1,hol,lim_eq,e]
  | false=>
    obtain ⟨z,hz,hr,e⟩:=k2 ha
    obtain ⟨_,o⟩:=(openU_mem (Nat.le_refl n)).mp hz
    have hr : reachF n (restB n tb z.1 z.2) = true:=by simpa using hr
    refine ⟨plV z,.inr ⟨z.1,z.2,rfl,o,Ca.of_reach (fun g hg=>by rw [rb_rights w.sz o.hh o.hp o.ne hg]; exact c.nn g hg) hr⟩,?_⟩
    have hf : fin st (plV z) st = .ok (plV z) st:=fin_good (by simp [good,plV])
    clear k1 k2 ha hz
    generalize plV z = pv at *
    generalize (openU n tb n).map plV = ov at *
    generalize tabV tb = T at *
    simp -implicitDefEqProofs [F_next_place,callF,m_next_place,e1,hol,lim_eq,e,hf]
theorem oMul_lst (st : Store) (xs : List PV) (b : Int) : oMul st (.lst xs) (.int b) = if -(2 ^ 63) <= b /\ b < 2 ^ 63 /\ xs.length * b.toNat <= lim then .ok (.lst (List.replicate b.toNat xs).flatten) st else .stuck:=rfl
theorem reps (x : PV) : ∀ j : Nat,(List.replicate j [x]).flatten = List.replicate j x
  | 0=>rfl
  | j + 1=>by rw [List.replicate_succ,List.flatten_cons,reps x j,List.replicate_succ]; rfl
def offF (n : Nat) (tb : List (List Int)) : Int:=(upto n fun g=>upto n fun a=>ent tb a g) - stockF n tb
theorem upto2_delta (n x y : Nat) (k : Int) : (upto n fun g=>upto n fun a=>if a = x /\ g = y then k else 0) = if x < n /\ y < n then k else 0:=by
  rw [upto_congr (g:=fun g=>if g = y then (if x < n then k else 0) else 0) fun g _=>by
    by_cases e : g = y
    · rw [if_pos e,<- upto_delta n x k]; exact upto_congr fun a _=>by simp [e]
    · rw [if_neg e,upto_congr (g:=fun _=>0) fun a _=>by simp [e],upto_zero],upto_delta]
  by_cases a : x < n <;> by_cases b : y < n <;> simp [a,b]
theorem off_step {n h pl : Nat} {tb : List (List Int)} (w : Wt' n tb) (o : Op n tb h pl) : offF n (restB n tb h pl) = offF n tb - 1:=by
  have hs : stockF n (restB n tb h pl) = stockF n tb:=by
    rw [<- rights_sum (rb_sz w.sz o.hh o.hp),<- rights_sum w.sz]
    exact upto_congr fun g hg=>rb_rights w.sz o.hh o.hp o.ne hg
  unfold offF
  rw [hs,upto_congr (g:=fun g=>(upto n fun a=>ent tb a g) - (upto n fun a=>if a = h /\ g = h then 1 else 0) - (upto n fun a=>if a = h /\ g = pl then 1 else 0) + (upto n fun a=>if a = pl /\ g = pl then (if pl < n then 1 else 0) else 0)) fun g hg=>by
    rw [<- upto_sub,<- upto_sub,<- upto_add]
    exact upto_congr fun a _=>by
      rw [rb_ent w.sz o.hh o.hp o.ne]
      by_cases q : a = pl /\ g = pl <;> by_cases r : pl < n <;> simp [q,r],upto_add,upto_sub,upto_sub,upto2_delta,upto2_delta,upto2_delta,if_pos ⟨o.hh,o.hh⟩]
  have:=o.hh
  by_cases r : pl < n
  · rw [if_pos ⟨o.hh,r⟩,if_pos ⟨r,r⟩,if_pos r]; omega
  · rw [if_neg (fun q=>r q.2),if_neg (fun q=>r q.2)]; omega
theorem off_row {n : Nat} {tb : List (List Int)} (w : Wt' n tb) : offF n tb = upto n fun g=>(tb.getD g []).sum - ent tb g g:=by
  unfold offF
  rw [<- rights_sum w.sz,<- upto_sub]
  refine upto_congr fun g hg=>?_
  unfold rightsF
  rw [w.len]; omega
theorem row_nn {n g : Nat} {tb : List (List Int)} (w : Wt' n tb) (hg : g < n) : 0 <= (tb.getD g []).sum - ent tb g g:=by
  have h1:=rightsF_eq w.sz hg
  unfold rightsF at h1
  rw [w.len] at h1
  have h2 : ent tb g g <= upto n (fun j=>ent tb g j):=upto_le (fun j hj=>w.ent_nn hg (Nat.le_of_lt hj)) hg
  have h3:=w.ent_nn hg (Nat.le_refl n)
  omega
theorem off_nn {n : Nat} {tb : List (List Int)} (w : Wt' n tb) : 0 <= offF n tb:=by
  rw [off_row w]
  exact upto_nonneg fun g hg=>row_nn w hg
theorem off_zero {n : Nat} {tb : List (List Int)} (w : Wt' n tb) (h : ∀ g,g < n -> busyF tb g = false) : offF n tb = 0:=by
  rw [off_row w,upto_congr (g:=fun _=>0) fun g hg=>by
    have h1:=h g hg
    unfold busyF at h1
    rw [decide_eq_false_iff_not] at h1
    have:=row_nn w hg
    omega,upto_zero]
def stV (n : Nat) (z : Nat × Nat) : PV:=if z.2 = n then .tup [.str "use",.int z.1,.int 1] else .tup [.str "lend",.int z.1,.int z.2,.int 1]
inductive Pth (n : Nat) : List (List Int) -> List (Nat × Nat) -> Prop
  | nil {tb : List (List Int)} : (∀ g,g < n -> busyF tb g = false) -> Pth n tb []
  | cons {tb : List (List Int)} {h pl : Nat} {ps : List (Nat × Nat)} : Op n tb h pl -> Pth n (restB n tb h pl) ps -> Pth n tb ((h,pl) :: ps)
theorem step_at_ok {n h pl : Nat} {tb : List (List Int)} (z : Sz n tb) (st : Store) : F_step_at [tabV tb,.int h,.int pl] st = .ok (stV n (h,pl)) st:=by
  have hl : cLen st [tabV tb] = .ok (.int n) st:=by unfold tabV; simp [z.1]
  unfold stV
  by_cases q : pl = n
  · rw [if_pos q]
    have g : fin st (.tup [.str "use",.int h,.int 1]) st = .ok (.tup [.str "use",.int h,.int 1]) st:=fin_good (by simp [good])
    subst q
    generalize tabV tb = T at *
    simp -implicitDefEqProofs [F_step_at,callF,m_step_at,hl,lim_eq,g]
  · rw [if_neg q]
    have g : fin st (.tup [.str "lend",.int h,.int pl,.int 1]) st = .ok (.tup [.str "lend",.int h,.int pl,.int 1]) st:=fin_good (by simp [good])
    have q' : ((pl : Int) == (n : Int)) = false:=by rw [beq_eq_false_iff_ne]; omega
    generalize tabV tb = T at *
    simp -implicitDefEqProofs [F_step_at,callF,m_step_at,hl,lim_eq,q',q,g]
theorem steps_while {n p : Nat} {T b2 b3 : Option PV} : ∀ (m fuel : Nat) (tb : List (List Int)) (told : List PV) (st : Store) (v : PV),Wt' n tb -> Ca n tb -> NP n tb v -> offF n tb = m -> m + 1 <= fuel -> st[p]? = some (.lst told) -> told.length + m <= 1000 ->
    ∃ (ps : List (Nat × Nat)) (tb' : List (List Int)) (v' : PV),Pth n tb ps /\ ps.length = m /\ whileG w_steps_2 b_steps_2 fuel [T,some (.ref p),b2,b3,some (tabV tb),some v] st = .nx [T,some (.ref p),b2,b3,some (tabV tb'),some v'] (st.set p (.lst (told ++ ps.map (stV n))))
  | m,0,_,_,_,_,_,_,_,_,h,_,_=>absurd h (by omega)
  | m,fuel + 1,tb,told,st,v,w,c,np,hm,hf,hp,hl=>by
    rcases np with ⟨rfl,hb⟩ | ⟨h,pl,rfl,o,c'⟩
    · have h0:=off_zero w hb
      have m0 : m = 0:=by omega
      subst m0
      refine ⟨[],tb,.non,.nil hb,rfl,?_⟩
      have es : st.set p (.lst (told ++ ([] : List (Nat × Nat)).map (stV n))) = st:=by
        rw [List.map_nil,List.append_nil]
        refine List.ext_getElem? fun i=>?_
        by_cases q : p = i
        · subst q; rw [List.getElem?_set_self (List.getElem?_eq_some_iff.mp hp).1,hp]
        · rw [List.getElem?_set_ne q]
      have w1 : w_steps_2 [T,some (.ref p),b2,b3,some (tabV tb),some .non] st = .ok false st:=by
        generalize tabV tb = TT at *
        simp [w_steps_2,isNon]
      rw [es,whileG,w1]
      rfl
    · have hs:=off_step w o
      have hn:=off_nn (rb_wt w o)
      cases m with
      | zero=>omega
      | succ m=>
        have e1:=step_at_ok (h:=h) (pl:=pl) w.sz st
        obtain ⟨x,hx⟩ : ∃ x,stV n (h,pl) = x:=⟨_,rfl⟩
        rw [hx] at e1
        obtain ⟨S2,hS2⟩ : ∃ S2,st.set p (.lst (told ++ [x])) = S2:=⟨_,rfl⟩
        have e2:=rest_ok w.sz (by have:=w.n8; omega) o.hh o.hp S2
        obtain ⟨v2,np2,e3⟩:=next_ok (rb_wt w o) c' S2
        have hp2 : S2[p]? = some (.lst (told ++ [x])):=by rw [<- hS2,List.getElem?_set_self (List.getElem?_eq_some_iff.mp hp).1]
        obtain ⟨ps,tb',v',h1,h2,h3⟩:=steps_while (T:=T) (b2:=b2) (b3:=b3) m fuel (restB n tb h pl) (told ++ [x]) S2 v2 (rb_wt w o) c' np2 (by omega) (by omega) hp2 (by rw [List.length_append]; simp; omega)
        refine ⟨(h,pl) :: ps,tb',v',.cons o h1,by rw [List.length_cons,h2],?_⟩
        have w1 : w_steps_2 [T,some (.ref p),b2,b3,some (tabV tb),some (plV (h,pl))] st = .ok true st:=by
          unfold plV
          generalize tabV tb = TT at *
          simp [w_steps_2,isNon]
        have a0 : ∀ S : Store,oIx S (plV (h,pl)) (.int 0) = .ok (.int h) S:=fun S=>rfl
        have a1 : ∀ S : Store,oIx S (plV (h,pl)) (.int 1) = .ok (.int pl) S:=fun S=>rfl
        have hl' : told.length < 1000000:=by omega
        have eb : b_steps_2 [T,some (.ref p),b2,b3,some (tabV tb),some (plV (h,pl))] st = .nx [T,some (.ref p),b2,b3,some (tabV (restB n tb h pl)),some v2] S2:=by
          clear h3 w1 np2
          generalize tabV (restB n tb h pl) = T2 at *
          generalize tabV tb = TT at *
          generalize plV (h,pl) = pv at *
          simp -implicitDefEqProofs [b_steps_2,e1,e2,e3,a0,a1,hp,mtAppend,chg,hl',lim_eq,hS2]
        rw [whileG,w1]
        simp only [sbind_ok,if_true,eb]
        rw [h3,<- hS2,List.set_set,List.map_cons,hx,List.append_assoc]
        rfl
theorem does_ok {n : Nat} {tb : List (List Int)} (w : Wt' n tb) (st : Store) : F_does_come_about [tabV tb] st = .ok (.bl (comesB n tb)) st:=by
  have h8:=w.n8
  obtain ⟨s,v,e,hs⟩:=comes_okF w.sz (by omega) st
  have ht:=is_table_ok w st
  rw [<- hs]
  generalize tabV tb = T at *
  simp -implicitDefEqProofs [F_does_come_about,callF,m_does_come_about,ht,e,atI,ixN]
theorem need_comes_ok {n : Nat} {tb : List (List Int)} (w : Wt' n tb) (c : Ca n tb) (st : Store) : F_need_comes_about [tabV tb] st = .ok .non st:=by
  have e:=does_ok w st
  rw [c.comes] at e
  generalize tabV tb = T at *
  simp -implicitDefEqProofs [F_need_comes_about,callF,m_need_comes_about,e]
theorem map_getD14 {α β : Type} (l : List α) (d : α) (f : α -> β) : l.map f = (List.range l.length).map fun i=>f (l.getD i d):=by
  refine List.ext_getElem? fun i=>?_
  rw [List.getElem?_map,List.getElem?_map]
  by_cases h : i < l.length
  · rw [List.getElem?_range h,List.getElem?_eq_getElem h]
    simp [List.getD,List.getElem?_eq_getElem h]
  · rw [List.getElem?_eq_none (by omega),List.getElem?_eq_none (by rw [List.length_range]; omega)]; rfl
def totF (n : Nat) (tb : List (List Int)) : Int:=upto n fun g=>(tb.getD g []).sum
theorem tot_sum {n : Nat} {tb : List (List Int)} (z : Sz n tb) : (tb.map List.sum).sum = totF n tb:=by
  rw [map_getD14 tb [] List.sum,z.1]; rfl
theorem tot_ok {n : Nat} {tb : List (List Int)} (z : Sz n tb) (hn : n <= 8) (me : ME) (hme : me = (mCall (cInts fun ns=>some (.int ns.sum)) (mCons (mVar 0) mNil))) (Γ : Gam) (st : Store) : compG (gaName 0) mTrue me [] (capG [none] Γ) (tb.map rowV) st = .ok ((tb.map List.sum).map .int) st:=by
  subst hme
  rw [List.map_map]
  refine compG_on _ _ (by simp) fun r hr=>⟨_,rfl,?_⟩
  have hl : (r.map PV.int).length <= 1000000:=by rw [List.length_map,z.2 r hr]; omega
  unfold rowV
  simp [capG]
theorem make_turn {n h : Nat} {tb : List (List Int)} (w : Wt' n tb) (hh : h < n) (hd : ent tb h h <= 300) {told : List PV} (hl : told.length <= 1000) {st : Store} {p : Nat} (hp : st[p]? = some (.lst told)) (b4 b5 : Option PV) :
    b_steps_1 [some (tabV tb),some (.ref p),some (.int h),some (rowV (tb.getD h [])),b4,b5] st = .nx [some (tabV tb),some (.ref p),some (.int h),some (rowV (tb.getD h [])),b4,b5] (st.set p (.lst (told ++ List.replicate (ent tb h h).toNat (.tup [.str "make",.int h,.int 1])))):=by
  have c:=(cell_ix w.sz hh (Nat.le_of_lt hh) st).2
  have h0:=w.ent_nn hh (Nat.le_of_lt hh)
  have e1 : oMul st (.lst [.tup [.str "make",.int h,.int 1]]) (.int (ent tb h h)) = .ok (.lst (List.replicate (ent tb h h).toNat (.tup [.str "make",.int h,.int 1]))) st:=by
    rw [oMul_lst,if_pos ⟨by omega,by omega,by rw [lim_eq]; simp; omega⟩,reps]
  have hll : told.length + (List.replicate (ent tb h h).toNat (PV.tup [.str "make",.int h,.int 1])).length <= 1000000:=by rw [List.length_replicate]; omega
  generalize List.replicate (ent tb h h).toNat (PV.tup [.str "make",.int h,.int 1]) = mk at *
  generalize ent tb h h = d at *
  generalize tabV tb = T at *
  generalize rowV (tb.getD h []) = r at *
  simp -implicitDefEqProofs [b_steps_1,c,lim_eq,e1,mtExtend,chg,hp,hll,-oIx_r]
theorem tot_off {n : Nat} {tb : List (List Int)} (w : Wt' n tb) : totF n tb = upto n (fun g=>ent tb g g) + offF n tb:=by
  rw [off_row w,<- upto_add]
  exact upto_congr fun g _=>by omega
def mkV (h : Nat) : PV:=.tup [.str "make",.int h,.int 1]
def mkU (tb : List (List Int)) : Nat -> List PV
  | 0=>[]
  | i + 1=>mkU tb i ++ List.replicate (ent tb i i).toNat (mkV i)
theorem mkU_len {n : Nat} {tb : List (List Int)} (hdn : ∀ g,g < n -> 0 <= ent tb g g) : ∀ i,i <= n -> ((mkU tb i).length : Int) = upto i (fun g=>ent tb g g)
  | 0,_=>by simp [mkU,upto]
  | i + 1,h=>by
    have:=mkU_len hdn i (by omega)
    have h2:=hdn i (by omega)
    rw [mkU,List.length_append,List.length_replicate,upto_succ]
    push_cast
    omega
theorem upto_mono {n : Nat} {f : Nat -> Int} (hf : ∀ g,g < n -> 0 <= f g) : ∀ m x,x <= m -> m <= n -> upto x f <= upto m f:=fun m x hm=>by
  induction hm with
  | refl=>intro _; exact Int.le_refl _
  | @step m hm ih=>intro h2; rw [upto_succ]; have:=ih (by omega); have:=hf m (by omega); omega
theorem steps_ok {n : Nat} {tb : List (List Int)} (w : Wt' n tb) (c : Ca n tb) (ht : totF n tb <= 300) (st : Store) : ∃ ps : List (Nat × Nat),Pth n tb ps /\ (mkU tb n ++ ps.map (stV n)).length <= 300 /\ F_steps [tabV tb] st = .ok (.ref st.length) (st ++ [.lst (mkU tb n ++ ps.map (stV n))]):=by
  have h8:=w.n8
  have e0:=need_comes_ok w c st
  have hoff:=off_nn w
  have hto:=tot_off w
  have hdn : ∀ g,g < n -> 0 <= ent tb g g:=fun g hg=>w.ent_nn hg (Nat.le_of_lt hg)
  have hd : ∀ g,g < n -> ent tb g g <= 300:=fun g hg=>by
    have:=upto_le (f:=fun g=>ent tb g g) hdn hg
    have : ent tb g g <= upto n (fun g=>ent tb g g):=this
    omega
  have e1:=tot_ok w.sz h8 e_steps_1 rfl
  have et:=tot_sum w.sz
  obtain ⟨Γ',S1,e2,b2,b3,rfl,rfl⟩:=forG_inv (g:=fun k : Nat=>PV.tup [.int k,rowV (tb.getD k [])]) (xs:=List.range n) (ga:=gaTup (gaCons (gaName 2) (gaCons (gaName 3) gaNil))) (body:=b_steps_1) (w:=[]) (Γ:=[some (tabV tb),some (.ref st.length),none,none,none,none]) (st:=st ++ [.lst []])
    (fun i Γ st'=>∃ (b2 b3 : Option PV),Γ = [some (tabV tb),some (.ref st.length),b2,b3,none,none] /\ st' = st ++ [.lst (mkU tb i)])
    (fun _ _ _ _=>by simp)
    (fun i x Γ st' hx ⟨b2,b3,g1,g4⟩=>by
      subst g1; subst g4
      have hin : i < n:=by simpa using (List.getElem?_eq_some_iff.mp hx).1
      have hxi : x = i:=by
        rw [List.getElem?_range hin] at hx
        exact (Option.some.inj hx).symm
      subst hxi
      have hle:=upto_mono hdn n x (Nat.le_of_lt hin) (Nat.le_refl n)
      have hll:=mkU_len hdn x (Nat.le_of_lt hin)
      have e:=make_turn w hin (hd x hin) (told:=mkU tb x) (by omega) (st:=st ++ [.lst (mkU tb x)]) (p:=st.length) (by simp) none none
      refine ⟨_,rfl,_,_,e,_,_,rfl,?_⟩
      rw [List.set_append_right _ _ (Nat.le_refl _),Nat.sub_self]; rfl)
    ⟨_,_,rfl,rfl⟩
  rw [List.length_range] at e2
  have hl:=mkU_len hdn n (Nat.le_refl n)
  obtain ⟨v,np,e3⟩:=next_ok w c (st ++ [.lst (mkU tb n)])
  obtain ⟨m,hm⟩ : ∃ m : Nat,offF n tb = m:=⟨(offF n tb).toNat,by omega⟩
  obtain ⟨ps,tb',v',l',g',e4⟩:=steps_while (T:=some (tabV tb)) (b2:=b2) (b3:=b3) (p:=st.length) m 100000 tb (mkU tb n) (st ++ [.lst (mkU tb n)]) v w c np hm (by omega) (by simp) (by omega)
  refine ⟨ps,l',by rw [List.length_append,List.length_map]; omega,?_⟩
  have es : (st ++ [Cell.lst (mkU tb n)]).set st.length (.lst (mkU tb n ++ ps.map (stV n))) = st ++ [.lst (mkU tb n ++ ps.map (stV n))]:=by rw [List.set_append_right _ _ (Nat.le_refl _),Nat.sub_self]; rfl
  rw [es] at e4
  have en : enumT 0 (tb.map rowV) = (List.range n).map fun k : Nat=>PV.tup [.int k,rowV (tb.getD k [])]:=by
    rw [enumT_map,zipIdx_map tb [],w.len]
  have hlr : (tb.map rowV).length <= 1000000:=by rw [List.length_map,w.len]; omega
  have ht' : ¬ (300 < totF n tb):=by omega
  rw [<- en] at e2
  generalize tabV tb' = Tq at *
  unfold tabV at *
  generalize hsums : tb.map List.sum = ss at *
  generalize totF n tb = tt at *
  generalize tb.map rowV = T at *
  generalize st ++ [Cell.lst (mkU tb n ++ ps.map (stV n))] = S3 at *
  generalize st ++ [Cell.lst (mkU tb n)] = S2 at *
  simp -implicitDefEqProofs [F_steps,callK,m_steps,e0,hlr,lim_eq,e1,et,ht',e2,e3,e4]
theorem steps_table {n : Nat} {tb : List (List Int)} (w : Wt' n tb) (hc : comesB n tb = false) (st : Store) : F_steps [tabV tb] st = .exc ⟨"NoTable",none⟩ st:=by
  have e:=does_ok w st
  rw [hc] at e
  have e0 : F_need_comes_about [tabV tb] st = .exc ⟨"NoTable",none⟩ st:=by
    generalize tabV tb = T at *
    simp -implicitDefEqProofs [F_need_comes_about,callF,m_need_comes_about,e,finX]
  generalize tabV tb = T at *
  simp -implicitDefEqProofs [F_steps,callK,m_steps,e0]
theorem steps_many {n : Nat} {tb : List (List Int)} (w : Wt' n tb) (c : Ca n tb) (ht : 300 < totF n tb) (st : Store) : F_steps [tabV tb] st = .exc ⟨"TooMany",none⟩ st:=by
  have h8:=w.n8
  have e0:=need_comes_ok w c st
  have e1:=tot_ok w.sz h8 e_steps_1 rfl
  have et:=tot_sum w.sz
  have hlr : (tb.map rowV).length <= 1000000:=by rw [List.length_map,w.len]; omega
  unfold tabV at *
  generalize hsums : tb.map List.sum = ss at *
  generalize totF n tb = tt at *
  generalize tb.map rowV = T at *
  simp -implicitDefEqProofs [F_steps,callK,m_steps,e0,hlr,lim_eq,e1,et,ht]
theorem told12_table {n : Nat} {tb : List (List Int)} (w : Wt' n tb) (hc : comesB n tb = false) (st : Store) : F__law_b_told [tabV tb] st = .ok (.str "table") st:=by
  unfold F__law_b_told
  rw [steps_table w hc st]
  simp
theorem told12_many {n : Nat} {tb : List (List Int)} (w : Wt' n tb) (c : Ca n tb) (ht : 300 < totF n tb) (st : Store) : F__law_b_told [tabV tb] st = .ok (.str "many") st:=by
  unfold F__law_b_told
  rw [steps_many w c ht st]
  dsimp only
  rw [if_neg (by decide),if_pos rfl]
theorem told12_steps {n : Nat} {tb : List (List Int)} (w : Wt' n tb) (c : Ca n tb) (ht : totF n tb <= 300) (st : Store) : ∃ ps : List (Nat × Nat),Pth n tb ps /\ (mkU tb n ++ ps.map (stV n)).length <= 300 /\ F__law_b_told [tabV tb] st = .ok (.ref st.length) (st ++ [.lst (mkU tb n ++ ps.map (stV n))]):=by
  obtain ⟨ps,h1,h2,h3⟩:=steps_ok w c ht st
  refine ⟨ps,h1,h2,?_⟩
  unfold F__law_b_told
  rw [h3]
theorem Wt'.set0 {n i j : Nat} {tb : List (List Int)} (w : Wt' n tb) (hi : i < n) {x : Int} (hx : 0 <= x) : Wt' n (tb.set i ((tb.getD i []).set j x)):=by
  have hr:=(w.sz.row hi).1
  have hm:=List.mem_of_getElem? hr
  generalize tb.getD i [] = r at *
  refine ⟨by rw [List.length_set]; exact w.len,fun q hq=>?_,fun q hq y hy=>?_,w.n1,w.n8⟩
  · rcases List.mem_or_eq_of_mem_set hq with hq | rfl
    · exact w.row q hq
    · rw [List.length_set]; exact w.row r hm
  · rcases List.mem_or_eq_of_mem_set hq with hq | rfl
    · exact w.nn q hq y hy
    · rcases List.mem_or_eq_of_mem_set hy with hy | rfl
      · exact w.nn r hm y hy
      · exact hx
structure RowsAt (n : Nat) (S : Store) (p q : Nat) (tb : List (List Int)) : Prop where
  l : S[p]? = some (.lst ((List.range n).map fun k=>PV.ref (q + k)))
  r : ∀ k,k < n -> S[q + k]? = some (.lst ((tb.getD k []).map .int))
  d : p < q \/ q + n <= p
theorem RowsAt.ix {n p q i : Nat} {S : Store} {tb : List (List Int)} (R : RowsAt n S p q tb) (hi : i < n) : oIx S (.ref p) (.int i) = .ok (.ref (q + i)) S:=by
  have : ListAt S (.ref p) _:=.inr (.inr ⟨_,rfl,R.l⟩)
  rw [this.ix,Sm.atI_get (show ((List.range n).map fun k=>PV.ref (q + k))[i]? = some (.ref (q + i)) by rw [List.getElem?_map,List.getElem?_range hi]; rfl)]
  rfl
theorem RowsAt.cell {n p q i j : Nat} {S : Store} {tb : List (List Int)} (R : RowsAt n S p q tb) (z : Sz n tb) (hi : i < n) (hj : j <= n) : oIx S (.ref (q + i)) (.int j) = .ok (.int (ent tb i j)) S:=by
  have : ListAt S (.ref (q + i)) _:=.inr (.inr ⟨_,rfl,R.r i hi⟩)
  rw [this.ix,atI_map,Sm.atI_get (z.cell hi hj)]; rfl
theorem RowsAt.tl {n p q : Nat} {S : Store} {tb : List (List Int)} (R : RowsAt n S p q tb) (z : Sz n tb) : TabLike S (.ref p) n tb:=by
  refine ⟨?_,fun i hi=>⟨_,R.ix hi,fun j hj=>R.cell z hi hj⟩⟩
  have : ListAt S (.ref p) _:=.inr (.inr ⟨_,rfl,R.l⟩)
  rw [this.len]
  simp
theorem put_okE {n p q i j : Nat} {S : Store} {tb : List (List Int)} (R : RowsAt n S p q tb) (w : Wt' n tb) {x : Int} (hx : 0 <= x) (hi : i < n) (hj : j <= n) (mo mi mj mv : ME) (Γ : Gam) (hv : mv Γ S = .ok (.int x) S) (ho : mo Γ S = .ok (.ref p) S) (hmi : mi Γ S = .ok (.int i) S) (hmj : mj Γ S = .ok (.int j) S) :
    ∃ S',RowsAt n S' p q (tb.set i ((tb.getD i []).set j x)) /\ Wt' n (tb.set i ((tb.getD i []).set j x)) /\ (∀ t,(t < q \/ q + n <= t) -> S'[t]? = S[t]?) /\ mSetIx (mOp oIx mo mi) mj mv Γ S = .nx Γ S':=by
  have hl:=(w.sz.row hi).2
  have hr:=R.r i hi
  have hil:=(List.getElem?_eq_some_iff.mp hr).1
  refine ⟨S.set (q + i) (.lst (((tb.getD i []).set j x).map .int)),⟨?_,fun k hk=>?_,R.d⟩,w.set0 hi hx,fun t ht=>?_,?_⟩
  · rw [List.getElem?_set_ne (by have:=R.d; omega)]
    exact R.l
  · by_cases e : k = i
    · subst e
      have hkl : k < tb.length:=by rw [w.len]; exact hk
      generalize (tb.getD k []).set j x = row
      rw [List.getElem?_set_self hil,List.getD,List.getElem?_set_self hkl]; rfl
    · rw [List.getElem?_set_ne (by omega),R.r k hk,List.getD,List.getD,List.getElem?_set_ne (fun z=>e z.symm)]
  · rw [List.getElem?_set_ne (by omega)]
  · have x1:=R.ix hi
    have x2 : setIx S (.ref (q + i)) (.int j) (.int x) = some (S.set (q + i) (.lst (((tb.getD i []).set j x).map .int))):=by
      unfold setIx
      simp only [hr,List.length_map,ixN_nat (show j < (tb.getD i []).length by omega),Option.map_some]
      rw [List.map_set]
    generalize S.set (q + i) (.lst (((tb.getD i []).set j x).map .int)) = S2 at *
    simp -implicitDefEqProofs [hv,ho,hmi,x1,hmj,x2,-setIx_r]
abbrev Sp2:=Nat × Option Nat
def spV (n : Nat) (x : Sp2) : PV:=match x.2 with
  | none=>mkV x.1
  | some pl=>stV n (x.1,pl)
def okV (n : Nat) (x : Sp2) : Prop:=x.1 < n /\ ∀ pl,x.2 = some pl -> pl <= n /\ pl ≠ x.1
def stR (R : List (List Int)) (x : Sp2) : List (List Int):=putT R x.1 (x.2.getD x.1) (ent R x.1 (x.2.getD x.1) + 1)
def bump (H : Nat -> Int) (a : Nat) (k : Int) : Nat -> Int:=fun b=>if b = a then H b + k else H b
def stH (n : Nat) (H : Nat -> Int) (x : Sp2) : Nat -> Int:=match x.2 with
  | none=>bump H x.1 1
  | some pl=>if pl = n then bump H x.1 (-1) else bump (bump H x.1 (-1)) pl 1
def okS (n : Nat) (H : Nat -> Int) (x : Sp2) : Prop:=okV n x /\ (x.2 ≠ none -> 1 <= H x.1)
def hasV (n : Nat) (H : Nat -> Int) : List PV:=(List.range n).map fun a=>PV.int (H a)
theorem lwhole12 (i : Int) (st : Store) : F__law_b_whole [.int i] st = .ok (.bl true) st:=by
  simp [F__law_b_whole,callF,m__law_b_whole,isI,tyN]
theorem is_step_ok {n : Nat} {x : Sp2} (ok : okV n x) (st : Store) : F__law_b_is_step [spV n x,.int n] st = .ok (.bl true) st:=by
  obtain ⟨h,o⟩:=x
  obtain ⟨h1,h2⟩:=ok
  have h1 : h < n:=h1
  have h1' : (h : Int) < n:=by omega
  have key : ∀ (js : List Int) (Γ : Gam),compG (gaName 0) mTrue e__law_b_is_step_1 [] (capG [none] Γ) (js.map .int) st = .ok ((js.map fun _=>true).map .bl) st:=fun js Γ=>by
    rw [List.map_map]
    refine compG_on _ _ (by simp) fun z hz=>⟨_,rfl,?_⟩
    show _ = Res.ok (PV.bl true) st
    simp [capG,e__law_b_is_step_1,lwhole12]
  cases o with
  | none=>
    have hc : ∀ Γ,compG (gaName 0) mTrue e__law_b_is_step_1 [] (capG [none] Γ) [.int h,.int 1] st = .ok [.bl true,.bl true] st:=fun Γ=>key [(h : Int),1] Γ
    have hsl : cut [PV.str "make",.int h,.int 1] (some 1) none = [.int h,.int 1]:=rfl
    have hal : cBls (fun ns=>.bl (ns.all id)) st [.lst [.bl true,.bl true]] = .ok (.bl true) st:=rfl
    have hx : oIx st (.tup [PV.str "make",.int h,.int 1]) (.int 1) = .ok (.int h) st:=rfl
    have hx0 : oIx st (.tup [PV.str "make",.int h,.int 1]) (.int 0) = .ok (.str "make") st:=rfl
    have hxl : oIx st (.tup [PV.str "make",.int h,.int 1]) (.int (-1)) = .ok (.int 1) st:=rfl
    have hlm : ¬ (Str.ofString "make" = Str.ofString "lend"):=by decide
    have hlen : cLen st [.tup [PV.str "make",.int h,.int 1]] = .ok (.int 3) st:=rfl
    show F__law_b_is_step [.tup [.str "make",.int h,.int 1],.int n] st = _
    simp -implicitDefEqProofs [F__law_b_is_step,callF,m__law_b_is_step,isI,tyN,hlen,hsl,hc,hal,hx,hx0,hxl,h1,h1',hlm,lim_eq,-oIx_tup,-cLen_tup]
  | some pl=>
    obtain ⟨hp,hne⟩:=h2 pl rfl
    have hne : pl ≠ h:=hne
    by_cases q : pl = n
    · have hc : ∀ Γ,compG (gaName 0) mTrue e__law_b_is_step_1 [] (capG [none] Γ) [.int h,.int 1] st = .ok [.bl true,.bl true] st:=fun Γ=>key [(h : Int),1] Γ
      have hsl : cut [PV.str "use",.int h,.int 1] (some 1) none = [.int h,.int 1]:=rfl
      have hal : cBls (fun ns=>.bl (ns.all id)) st [.lst [.bl true,.bl true]] = .ok (.bl true) st:=rfl
      have hx : oIx st (.tup [PV.str "use",.int h,.int 1]) (.int 1) = .ok (.int h) st:=rfl
      have hx0 : oIx st (.tup [PV.str "use",.int h,.int 1]) (.int 0) = .ok (.str "use") st:=rfl
      have hxl : oIx st (.tup [PV.str "use",.int h,.int 1]) (.int (-1)) = .ok (.int 1) st:=rfl
      have hlm : ¬ (Str.ofString "use" = Str.ofString "lend"):=by decide
      have hlm2 : ¬ (Str.ofString "use" = Str.ofString "make"):=by decide
      have hlen : cLen st [.tup [PV.str "use",.int h,.int 1]] = .ok (.int 3) st:=rfl
      have e : spV n (h,some pl) = .tup [.str "use",.int h,.int 1]:=by show stV n (h,pl) = _; unfold stV; rw [if_pos q]
      rw [e]
      simp -implicitDefEqProofs [F__law_b_is_step,callF,m__law_b_is_step,isI,tyN,hlen,hsl,hc,hal,hx,hx0,hxl,h1,h1',hlm,hlm2,lim_eq,-oIx_tup,-cLen_tup]
    · have hc : ∀ Γ,compG (gaName 0) mTrue e__law_b_is_step_1 [] (capG [none] Γ) [.int h,.int pl,.int 1] st = .ok [.bl true,.bl true,.bl true] st:=fun Γ=>key [(h : Int),pl,1] Γ
      have hsl : cut [PV.str "lend",.int h,.int pl,.int 1] (some 1) none = [.int h,.int pl,.int 1]:=rfl
      have hal : cBls (fun ns=>.bl (ns.all id)) st [.lst [.bl true,.bl true,.bl true]] = .ok (.bl true) st:=rfl
      have hx : oIx st (.tup [PV.str "lend",.int h,.int pl,.int 1]) (.int 1) = .ok (.int h) st:=rfl
      have hx2 : oIx st (.tup [PV.str "lend",.int h,.int pl,.int 1]) (.int 2) = .ok (.int pl) st:=rfl
      have hx0 : oIx st (.tup [PV.str "lend",.int h,.int pl,.int 1]) (.int 0) = .ok (.str "lend") st:=rfl
      have hxl : oIx st (.tup [PV.str "lend",.int h,.int pl,.int 1]) (.int (-1)) = .ok (.int 1) st:=rfl
      have hlen : cLen st [.tup [PV.str "lend",.int h,.int pl,.int 1]] = .ok (.int 4) st:=rfl
      have hpl : pl < n:=by omega
      have hpl' : (pl : Int) < n:=by omega
      have hne2 : ¬ ((h : Int) = pl):=by omega
      have hne3 : ¬ (h = pl):=by omega
      have e : spV n (h,some pl) = .tup [.str "lend",.int h,.int pl,.int 1]:=by show stV n (h,pl) = _; unfold stV; rw [if_neg q]
      rw [e]
      simp -implicitDefEqProofs [F__law_b_is_step,callF,m__law_b_is_step,isI,tyN,hlen,hsl,hc,hal,hx,hx0,hx2,hxl,h1,h1',hpl,hpl',hne2,hne3,lim_eq,-oIx_tup,-cLen_tup]
abbrev ldΓ (T : PV) (P n p r : Nat) (b5 b6 b7 : Option PV) : Gam:=[some T,some (.ref P),some (.int n),some (.ref p),some (.ref r),b5,b6,b7]
theorem RowsAt.setC {n p q r : Nat} {S : Store} {tb : List (List Int)} (R : RowsAt n S p q tb) (hrp : r ≠ p) (hrq : r < q \/ q + n <= r) (c : Cell) : RowsAt n (S.set r c) p q tb:=
  ⟨by rw [List.getElem?_set_ne hrp]; exact R.l,fun k hk=>by rw [List.getElem?_set_ne (by omega)]; exact R.r k hk,R.d⟩
theorem has_at {n r a : Nat} {S : Store} {H : Nat -> Int} (hr : S[r]? = some (.lst (hasV n H))) (ha : a < n) : oIx S (.ref r) (.int a) = .ok (.int (H a)) S:=by
  have hL : ListAt S (.ref r) (hasV n H):=.inr (.inr ⟨r,rfl,hr⟩)
  rw [hL.ix,Sm.atI_get (show (hasV n H)[a]? = some (.int (H a)) by unfold hasV; rw [List.getElem?_map,List.getElem?_range ha]; rfl)]; rfl
theorem has_set {n r a : Nat} {S : Store} {H : Nat -> Int} (hr : S[r]? = some (.lst (hasV n H))) (ha : a < n) (k : Int) : setIx S (.ref r) (.int a) (.int (H a + k)) = some (S.set r (.lst (hasV n (bump H a k)))):=by
  have e : (hasV n H).set a (.int (H a + k)) = hasV n (bump H a k):=by
    unfold hasV
    refine List.ext_getElem? fun i=>?_
    by_cases q : i < n
    · by_cases z : a = i
      · subst z
        rw [List.getElem?_set_self (by simpa using q),List.getElem?_map,List.getElem?_range q]
        simp [bump]
      · rw [List.getElem?_set_ne z,List.getElem?_map,List.getElem?_map,List.getElem?_range q]
        have z' : ¬ (i = a):=fun h=>z h.symm
        simp [bump,z']
    · rw [List.getElem?_eq_none (by simp; omega),List.getElem?_eq_none (by simp; omega)]
  unfold setIx
  have hl : (hasV n H).length = n:=by simp [hasV]
  simp only [hr,hl,ixN_nat ha,Option.map_some,e]
theorem has_setL {n r a : Nat} {S : Store} {H : Nat -> Int} (hr : S[r]? = some (.lst (hasV n H))) (c : Cell) : (S.set r c)[r]? = some c:=by
  rw [List.getElem?_set_self (List.getElem?_eq_some_iff.mp hr).1]
theorem bump_ok {n r a : Nat} {S : Store} {H : Nat -> Int} (hr : S[r]? = some (.lst (hasV n H))) (ha : a < n) (k : Int) (mo mi mv : ME) (Γ : Gam) (hv : mv Γ S = .ok (.int (H a + k)) S) (ho : mo Γ S = .ok (.ref r) S) (hi : mi Γ S = .ok (.int a) S) : mSetIx mo mi mv Γ S = .nx Γ (S.set r (.lst (hasV n (bump H a k)))):=by
  have e:=has_set hr ha k
  simp -implicitDefEqProofs [hv,ho,hi,e,-setIx_r]
structure LdAt (n P p q r : Nat) (L : List PV) (S0 S : Store) (R : List (List Int)) (H : Nat -> Int) : Prop where
  rows : RowsAt n S p q R
  wt : Wt' n R
  has : S[r]? = some (.lst (hasV n H))
  rp : r ≠ p
  rq : r < q \/ q + n <= r
  keep : ∀ i,i < S0.length -> S[i]? = S0[i]?
  len : S0.length <= S.length
  q0 : S0.length <= q
  r0 : S0.length <= r
  p0 : S0.length <= p
  dd : S0[P]? = some (.lst L)
theorem LdAt.P {n P p q r : Nat} {L : List PV} {S0 S : Store} {R : List (List Int)} {H : Nat -> Int} (A : LdAt n P p q r L S0 S R H) : S[P]? = some (.lst L):=by
  rw [A.keep P (List.getElem?_eq_some_iff.mp A.dd).1]; exact A.dd
theorem LdAt.bump {n P p q r : Nat} {L : List PV} {S0 S : Store} {R : List (List Int)} {H : Nat -> Int} (A : LdAt n P p q r L S0 S R H) (H' : Nat -> Int) : LdAt n P p q r L S0 (S.set r (.lst (hasV n H'))) R H':=
  ⟨A.rows.setC A.rp A.rq _,A.wt,has_setL (a:=0) A.has _,A.rp,A.rq,fun i hi=>by rw [List.getElem?_set_ne (by have:=A.r0; omega)]; exact A.keep i hi,by rw [List.length_set]; exact A.len,A.q0,A.r0,A.p0,A.dd⟩
theorem LdAt.put {n P p q r h j : Nat} {L : List PV} {S0 S : Store} {R : List (List Int)} {H : Nat -> Int} (A : LdAt n P p q r L S0 S R H) (hh : h < n) (hj : j <= n) (mo mi mj mv : ME) (Γ : Gam) (hv : mv Γ S = .ok (.int (ent R h j + 1)) S) (ho : mo Γ S = .ok (.ref p) S) (hmi : mi Γ S = .ok (.int h) S) (hmj : mj Γ S = .ok (.int j) S) :
    ∃ S',LdAt n P p q r L S0 S' (putT R h j (ent R h j + 1)) H /\ mSetIx (mOp oIx mo mi) mj mv Γ S = .nx Γ S':=by
  have h0:=A.wt.ent_nn hh hj
  obtain ⟨S2,R2,w2,f2,e2⟩:=put_okE A.rows A.wt (x:=ent R h j + 1) (by omega) hh hj mo mi mj mv Γ hv ho hmi hmj
  have hlen : S.length <= S2.length:=by
    by_cases z : S.length = 0
    · omega
    · have hq:=A.q0
      have : S2[q]? = _:=R2.r 0 (by omega)
      by_cases y : S2.length < S.length
      · exfalso
        have i1 : S2[S.length - 1]? = none:=List.getElem?_eq_none (by omega)
        by_cases x : S.length - 1 < q \/ q + n <= S.length - 1
        · rw [f2 _ x,List.getElem?_eq_getElem (by omega)] at i1
          cases i1
        · have:=R2.r (S.length - 1 - q) (by omega)
          rw [show q + (S.length - 1 - q) = S.length - 1 by omega,i1] at this
          cases this
      · omega
  refine ⟨S2,⟨R2,w2,by rw [f2 r A.rq]; exact A.has,A.rp,A.rq,fun i hi=>by rw [f2 i (.inl (by have:=A.q0; omega))]; exact A.keep i hi,Nat.le_trans A.len hlen,A.q0,A.r0,A.p0,A.dd⟩,e2⟩
theorem ld_turn {n P p q r : Nat} {T : PV} {L : List PV} {S0 S : Store} {R : List (List Int)} {H : Nat -> Int} (A : LdAt n P p q r L S0 S R H) {x : Sp2} (ok : okS n H x) (b6 b7 : Option PV) :
    ∃ S' c6 c7,LdAt n P p q r L S0 S' (stR R x) (stH n H x) /\ b__law_b_lead_1 (ldΓ T P n p r (some (spV n x)) b6 b7) S = .nx (ldΓ T P n p r (some (spV n x)) c6 c7) S':=by
  have e0:=is_step_ok ok.1 S
  obtain ⟨h,o⟩:=x
  obtain ⟨⟨hh,ho⟩,hpos⟩:=ok
  have hh : h < n:=hh
  have s0 : (mIfS (tNotM (toB (mCallF 2 F__law_b_is_step (mCons (mVar 5) (mCons (mVar 2) mNil))))) (mRet (mC (.bl false))) mNext) (ldΓ T P n p r (some (spV n (h,o))) b6 b7) S = .nx (ldΓ T P n p r (some (spV n (h,o))) b6 b7) S:=by
    unfold ldΓ
    generalize spV n (h,o) = X at *
    simp -implicitDefEqProofs [e0]
  cases o with
  | none=>
    have x1 : oIx S (spV n (h,none)) (.int 1) = .ok (.int h) S:=rfl
    have x0 : ∀ S,oIx S (spV n (h,none)) (.int 0) = .ok (.str "make") S:=fun S=>rfl
    have c1:=A.rows.ix hh
    have c2:=A.rows.cell A.wt.sz hh (Nat.le_of_lt hh)
    obtain ⟨S1,A1,e1⟩:=A.put hh (Nat.le_of_lt hh) (mVar 3) (mVar 6) (mVar 6) (mOp oAdd (mOp oIx (mOp oIx (mVar 3) (mVar 6)) (mVar 6)) (mC (.int 1))) (ldΓ T P n p r (some (spV n (h,none))) (some (.int h)) b7) (by
      unfold ldΓ
      generalize spV n (h,none) = X at *
      simp -implicitDefEqProofs [c1,c2,-oIx_r]) rfl rfl rfl
    have c3:=has_at A1.has hh
    have e2:=bump_ok A1.has hh 1 (mVar 4) (mVar 6) (mOp oAdd (mOp oIx (mVar 4) (mVar 6)) (mC (.int 1))) (ldΓ T P n p r (some (spV n (h,none))) (some (.int h)) b7) (by
      unfold ldΓ
      generalize spV n (h,none) = X at *
      simp -implicitDefEqProofs [c3,-oIx_r]) rfl rfl
    refine ⟨_,some (.int h),b7,A1.bump (bump H h 1),?_⟩
    unfold b__law_b_lead_1
    rw [mSeqS_eq,s0]
    show mSeqS _ _ _ _ = _
    have s1 : mSet 6 (mOp oIx (mVar 5) (mC (.int 1))) (ldΓ T P n p r (some (spV n (h,none))) b6 b7) S = .nx (ldΓ T P n p r (some (spV n (h,none))) (some (.int h)) b7) S:=by
      unfold ldΓ
      generalize spV n (h,none) = X at *
      simp -implicitDefEqProofs [x1]
    rw [mSeqS_eq,s1]
    show mIfS _ _ _ _ _ = _
    have t1 : (toB (mOp oEq (mOp oIx (mVar 5) (mC (.int 0))) (mC (.str "make")))) (ldΓ T P n p r (some (spV n (h,none))) (some (.int h)) b7) S = .ok true S:=by
      have:=x0 S
      unfold ldΓ
      generalize spV n (h,none) = X at *
      simp -implicitDefEqProofs [this]
    rw [mIfS_eq,t1,sbind_ok,if_pos rfl,mSeqS_eq,e1]
    show mSetIx _ _ _ _ _ = _
    exact e2
  | some pl=>
    obtain ⟨hp,hne⟩:=ho pl rfl
    have hne : pl ≠ h:=hne
    have hpos : 1 <= H h:=hpos (by simp)
    have x1 : oIx S (spV n (h,some pl)) (.int 1) = .ok (.int h) S:=by
      show oIx S (stV n (h,pl)) _ = _
      unfold stV
      by_cases q : pl = n
      · rw [if_pos q]; rfl
      · rw [if_neg q]; rfl
    obtain ⟨wd,x0,hw1,hw2⟩ : ∃ wd : Str,(∀ S,oIx S (spV n (h,some pl)) (.int 0) = .ok (.str wd) S) /\ ¬ (wd = "make") /\ (wd = "lend" <-> pl ≠ n):=by
      by_cases q : pl = n
      · refine ⟨"use",fun S=>?_,by decide,?_⟩
        · show oIx S (stV n (h,pl)) _ = _
          unfold stV
          rw [if_pos q]; rfl
        · exact ⟨fun z=>absurd z (by decide),fun z=>absurd q z⟩
      · refine ⟨"lend",fun S=>?_,by decide,?_⟩
        · show oIx S (stV n (h,pl)) _ = _
          unfold stV
          rw [if_neg q]; rfl
        · exact ⟨fun _=>q,fun _=>rfl⟩
    have s1 : mSet 6 (mOp oIx (mVar 5) (mC (.int 1))) (ldΓ T P n p r (some (spV n (h,some pl))) b6 b7) S = .nx (ldΓ T P n p r (some (spV n (h,some pl))) (some (.int h)) b7) S:=by
      unfold ldΓ
      generalize spV n (h,some pl) = X at *
      simp -implicitDefEqProofs [x1]
    have t1 : (toB (mOp oEq (mOp oIx (mVar 5) (mC (.int 0))) (mC (.str "make")))) (ldΓ T P n p r (some (spV n (h,some pl))) (some (.int h)) b7) S = .ok false S:=by
      have:=x0 S
      unfold ldΓ
      generalize spV n (h,some pl) = X at *
      simp -implicitDefEqProofs [this,hw1]
    have c3:=has_at A.has hh
    have hlt : ¬ H h < 1:=by omega
    have s2 : (mIfS (toB (mOp oLt (mOp oIx (mVar 4) (mVar 6)) (mC (.int 1)))) (mRet (mC (.bl false))) mNext) (ldΓ T P n p r (some (spV n (h,some pl))) (some (.int h)) b7) S = .nx (ldΓ T P n p r (some (spV n (h,some pl))) (some (.int h)) b7) S:=by
      unfold ldΓ
      generalize spV n (h,some pl) = X at *
      simp -implicitDefEqProofs [c3,hlt,-oIx_r]
    have e3:=bump_ok A.has hh (-1) (mVar 4) (mVar 6) (mOp (oI fun a b=>.int (a - b)) (mOp oIx (mVar 4) (mVar 6)) (mC (.int 1))) (ldΓ T P n p r (some (spV n (h,some pl))) (some (.int h)) b7) (by
      unfold ldΓ
      generalize spV n (h,some pl) = X at *
      have : H h + -1 = H h - 1:=by omega
      simp -implicitDefEqProofs [c3,this,-oIx_r]) rfl rfl
    have A3:=A.bump (bump H h (-1))
    obtain ⟨S3,hS3⟩ : ∃ S3,S.set r (.lst (hasV n (bump H h (-1)))) = S3:=⟨_,rfl⟩
    rw [hS3] at A3 e3
    have s4 : mSet 7 (mVar 2) (ldΓ T P n p r (some (spV n (h,some pl))) (some (.int h)) b7) S3 = .nx (ldΓ T P n p r (some (spV n (h,some pl))) (some (.int h)) (some (.int n))) S3:=by
      unfold ldΓ
      generalize spV n (h,some pl) = X at *
      simp -implicitDefEqProofs
    obtain ⟨S5,A5,s5⟩ : ∃ S5,LdAt n P p q r L S0 S5 R (stH n H (h,some pl)) /\ (mIfS (toB (mOp oEq (mOp oIx (mVar 5) (mC (.int 0))) (mC (.str "lend")))) (mSeqS (mSet 7 (mOp oIx (mVar 5) (mC (.int 2))))
      (mSetIx (mVar 4) (mVar 7) (mOp oAdd (mOp oIx (mVar 4) (mVar 7)) (mC (.int 1))))) mNext) (ldΓ T P n p r (some (spV n (h,some pl))) (some (.int h)) (some (.int n))) S3 = .nx (ldΓ T P n p r (some (spV n (h,some pl))) (some (.int h)) (some (.int pl))) S5:=by
      have y0:=x0 S3
      by_cases qq : pl = n
      · have hw : ¬ (wd = "lend"):=fun z=>(hw2.mp z) qq
        refine ⟨S3,?_,?_⟩
        · show LdAt n P p q r L S0 S3 R (if pl = n then _ else _)
          rw [if_pos qq]
          exact A3
        · subst qq
          unfold ldΓ
          generalize spV pl (h,some pl) = X at *
          simp -implicitDefEqProofs [y0,hw]
      · have hw : wd = "lend" := hw2.mpr qq
        have hpl : pl < n:=by omega
        have x2 : oIx S3 (spV n (h,some pl)) (.int 2) = .ok (.int pl) S3:=by
          show oIx S3 (stV n (h,pl)) _ = _
          unfold stV
          rw [if_neg qq]; rfl
        have c4:=has_at A3.has hpl
        have e4:=bump_ok A3.has hpl 1 (mVar 4) (mVar 7) (mOp oAdd (mOp oIx (mVar 4) (mVar 7)) (mC (.int 1))) (ldΓ T P n p r (some (spV n (h,some pl))) (some (.int h)) (some (.int pl))) (by
          unfold ldΓ
          generalize spV n (h,some pl) = X at *
          simp -implicitDefEqProofs [c4,-oIx_r]) rfl rfl
        refine ⟨S3.set r (.lst (hasV n (bump (bump H h (-1)) pl 1))),?_,?_⟩
        · show LdAt n P p q r L S0 _ R (if pl = n then _ else _)
          rw [if_neg qq]
          exact A3.bump _
        · have t2 : (toB (mOp oEq (mOp oIx (mVar 5) (mC (.int 0))) (mC (.str "lend")))) (ldΓ T P n p r (some (spV n (h,some pl))) (some (.int h)) (some (.int n))) S3 = .ok true S3:=by
            unfold ldΓ
            generalize spV n (h,some pl) = X at *
            simp -implicitDefEqProofs [y0,hw]
          have s6 : mSet 7 (mOp oIx (mVar 5) (mC (.int 2))) (ldΓ T P n p r (some (spV n (h,some pl))) (some (.int h)) (some (.int n))) S3 = .nx (ldΓ T P n p r (some (spV n (h,some pl))) (some (.int h)) (some (.int pl))) S3:=by
            unfold ldΓ
            generalize spV n (h,some pl) = X at *
            simp -implicitDefEqProofs [x2]
          rw [mIfS_eq,t2,sbind_ok,if_pos rfl,mSeqS_eq,s6]
          show mSetIx _ _ _ _ _ = _
          exact e4
    have c1:=A5.rows.ix hh
    have c2:=A5.rows.cell A5.wt.sz hh hp
    obtain ⟨S6,A6,e6⟩:=A5.put hh hp (mVar 3) (mVar 6) (mVar 7) (mOp oAdd (mOp oIx (mOp oIx (mVar 3) (mVar 6)) (mVar 7)) (mC (.int 1))) (ldΓ T P n p r (some (spV n (h,some pl))) (some (.int h)) (some (.int pl))) (by
      unfold ldΓ
      generalize spV n (h,some pl) = X at *
      simp -implicitDefEqProofs [c1,c2,-oIx_r]) rfl rfl rfl
    refine ⟨S6,some (.int h),some (.int pl),A6,?_⟩
    unfold b__law_b_lead_1
    rw [mSeqS_eq,s0]
    show mSeqS _ _ _ _ = _
    rw [mSeqS_eq,s1]
    show mIfS _ _ _ _ _ = _
    rw [mIfS_eq,t1,sbind_ok,if_neg (by decide),mSeqS_eq,s2]
    show mSeqS _ _ _ _ = _
    rw [mSeqS_eq,e3]
    show mSeqS _ _ _ _ = _
    rw [mSeqS_eq,s4]
    show mSeqS _ _ _ _ = _
    rw [mSeqS_eq,s5]
    show mSetIx _ _ _ _ _ = _
    exact e6
def OkL (n : Nat) : (Nat -> Int) -> List Sp2 -> Prop
  | _,[]=>True
  | H,x :: xs=>okS n H x /\ OkL n (stH n H x) xs
theorem ld_loop {n P p q r : Nat} {T : PV} {L : List PV} {S0 : Store} : ∀ (xs : List Sp2) {S : Store} {R : List (List Int)} {H : Nat -> Int} (b5 b6 b7 : Option PV),LdAt n P p q r L S0 S R H -> OkL n H xs ->
    ∃ S' c5 c6 c7,LdAt n P p q r L S0 S' (xs.foldl stR R) (xs.foldl (stH n) H) /\ forG (gaName 5) b__law_b_lead_1 [(P,L)] (xs.map (spV n)) (ldΓ T P n p r b5 b6 b7) S = .nx (ldΓ T P n p r c5 c6 c7) S'
  | [],S,R,H,b5,b6,b7,A,_=>⟨S,b5,b6,b7,A,by
      have hw : wOk [(P,L)] S:=by simp [wOk,A.P]
      simp [forG,hw]⟩
  | x :: xs,S,R,H,b5,b6,b7,A,ok=>by
    have hw : wOk [(P,L)] S:=by simp [wOk,A.P]
    obtain ⟨S1,c6,c7,A1,e1⟩:=ld_turn (T:=T) A ok.1 b6 b7
    obtain ⟨S',d5,d6,d7,A',e'⟩:=ld_loop xs (T:=T) (some (spV n x)) c6 c7 A1 ok.2
    refine ⟨S',d5,d6,d7,A',?_⟩
    rw [List.map_cons,forG,if_pos hw]
    have hg : gaName 5 (spV n x) (ldΓ T P n p r b5 b6 b7) = some (ldΓ T P n p r (some (spV n x)) b6 b7):=rfl
    rw [hg]
    simp only [e1]
    exact e'
def mkL (tb : List (List Int)) : Nat -> List Sp2
  | 0=>[]
  | i + 1=>mkL tb i ++ List.replicate (ent tb i i).toNat (i,none)
theorem mkL_V (n : Nat) (tb : List (List Int)) : ∀ i,(mkL tb i).map (spV n) = mkU tb i
  | 0=>rfl
  | i + 1=>by
    rw [mkL,mkU,List.map_append,mkL_V n tb i,List.map_replicate]; rfl
theorem okl_app {n : Nat} : ∀ (xs ys : List Sp2) (H : Nat -> Int),OkL n H (xs ++ ys) <-> OkL n H xs /\ OkL n (xs.foldl (stH n) H) ys
  | [],ys,H=>by simp [OkL]
  | x :: xs,ys,H=>by
    show okS n H x /\ OkL n (stH n H x) (xs ++ ys) <-> _
    rw [okl_app xs ys]
    show _ <-> (okS n H x /\ OkL n (stH n H x) xs) /\ _
    rw [and_assoc]; rfl
theorem mk_ok {n : Nat} : ∀ (xs : List Sp2),(∀ x ∈ xs,x.2 = none /\ x.1 < n) -> ∀ (H : Nat -> Int),OkL n H xs
  | [],_,_=>trivial
  | x :: xs,h,H=>⟨⟨⟨(h x List.mem_cons_self).2,fun pl e=>by rw [(h x List.mem_cons_self).1] at e; cases e⟩,fun z=>absurd (h x List.mem_cons_self).1 z⟩,mk_ok xs (fun y hy=>h y (List.mem_cons_of_mem _ hy)) _⟩
def cntM (xs : List Sp2) (a : Nat) : Int:=(xs.countP fun x=>decide (x.1 = a) : Nat)
theorem mk_fold {n : Nat} : ∀ (xs : List Sp2),(∀ x ∈ xs,x.2 = none /\ x.1 < n) -> ∀ (R : List (List Int)) (H : Nat -> Int),Sz n R ->
    Sz n (xs.foldl stR R) /\ (∀ a b,ent (xs.foldl stR R) a b = ent R a b + if a = b then cntM xs a else 0) /\ ∀ a,xs.foldl (stH n) H a = H a + cntM xs a
  | [],_,R,H,z=>⟨z,fun a b=>by simp [cntM],fun a=>by simp [cntM]⟩
  | x :: xs,h,R,H,z=>by
    obtain ⟨x1,x2⟩:=x
    obtain ⟨e,hx⟩:=h _ List.mem_cons_self
    have e : x2 = none:=e
    subst e
    have hx : x1 < n:=hx
    have z1 : Sz n (stR R (x1,none)):=putT_sz z hx _
    obtain ⟨i1,i2,i3⟩:=mk_fold xs (fun y hy=>h y (List.mem_cons_of_mem _ hy)) (stR R (x1,none)) (stH n H (x1,none)) z1
    have hc : ∀ a,cntM ((x1,none) :: xs) a = cntM xs a + if x1 = a then 1 else 0:=fun a=>by
      unfold cntM
      rw [List.countP_cons]
      by_cases q : x1 = a <;> simp [q]
    refine ⟨i1,fun a b=>?_,fun a=>?_⟩
    · show ent (xs.foldl stR (stR R (x1,none))) a b = _
      rw [i2,hc]
      have : ent (stR R (x1,none)) a b = if a = x1 /\ b = x1 then ent R x1 x1 + 1 else ent R a b:=ent_put z hx (Nat.le_of_lt hx) _ a b
      rw [this]
      by_cases q1 : a = b
      · subst q1
        by_cases q2 : a = x1
        · subst q2; simp; omega
        · have q3 : ¬ (x1 = a):=fun w=>q2 w.symm
          simp [q2,q3]
      · have : ¬ (a = x1 /\ b = x1):=fun w=>q1 (w.1.trans w.2.symm)
        simp [q1,this]
    · show xs.foldl (stH n) (stH n H (x1,none)) a = _
      rw [i3,hc]
      show bump H x1 1 a + cntM xs a = _
      unfold bump
      by_cases q : a = x1
      · subst q; simp; omega
      · have q3 : ¬ (x1 = a):=fun w=>q w.symm
        simp [q,q3]
theorem mkL_mem {tb : List (List Int)} : ∀ i,∀ x ∈ mkL tb i,x.2 = none /\ x.1 < i
  | 0,x,hx=>by cases hx
  | i + 1,x,hx=>by
    rcases List.mem_append.mp hx with hx | hx
    · have:=mkL_mem i x hx; exact ⟨this.1,by omega⟩
    · rw [List.eq_of_mem_replicate hx]; exact ⟨rfl,Nat.lt_succ_self i⟩
theorem mkL_cnt {n : Nat} {tb : List (List Int)} (hdn : ∀ g,g < n -> 0 <= ent tb g g) : ∀ i,i <= n -> ∀ a,cntM (mkL tb i) a = if a < i then ent tb a a else 0
  | 0,_,a=>by simp [mkL,cntM]
  | i + 1,h,a=>by
    have ih:=mkL_cnt hdn i (by omega) a
    have : cntM (mkL tb (i + 1)) a = cntM (mkL tb i) a + if i = a then ((ent tb i i).toNat : Int) else 0:=by
      unfold cntM
      rw [mkL,List.countP_append]
      by_cases q : i = a
      · have : (List.replicate (ent tb i i).toNat ((i,none) : Sp2)).countP (fun x=>decide (x.1 = a)) = (ent tb i i).toNat:=by
          rw [List.countP_eq_length.mpr fun x hx=>by rw [List.eq_of_mem_replicate hx]; simp [q],List.length_replicate]
        rw [this,if_pos q]; push_cast; rfl
      · have : (List.replicate (ent tb i i).toNat ((i,none) : Sp2)).countP (fun x=>decide (x.1 = a)) = 0:=by
          rw [List.countP_eq_zero]
          intro x hx
          rw [List.eq_of_mem_replicate hx]; simp [q]
        rw [this,if_neg q]; simp
    rw [this,ih]
    have hd:=hdn i (by omega)
    by_cases q : i = a
    · subst q
      rw [if_neg (by omega),if_pos rfl,if_pos (by omega)]; omega
    · rw [if_neg q]
      by_cases q2 : a < i
      · rw [if_pos q2,if_pos (by omega)]; omega
      · rw [if_neg q2,if_neg (by omega)]; omega
def psL (ps : List (Nat × Nat)) : List Sp2:=ps.map fun z=>(z.1,some z.2)
theorem psL_V (n : Nat) (ps : List (Nat × Nat)) : (psL ps).map (spV n) = ps.map (stV n):=by
  unfold psL; rw [List.map_map]; rfl
theorem pth_fold {n : Nat} {tb : List (List Int)} {rest : List (List Int)} {ps : List (Nat × Nat)} (P : Pth n rest ps) : Wt' n rest -> ∀ (R : List (List Int)) (H : Nat -> Int),Sz n R -> (∀ a,a < n -> H a = ent rest a a) -> (∀ a b,a < n -> b <= n -> b ≠ a -> ent R a b = ent tb a b - ent rest a b) -> (∀ a,a < n -> ent R a a = ent tb a a) ->
    OkL n H (psL ps) /\ Sz n ((psL ps).foldl stR R) /\ ∀ a b,a < n -> b <= n -> ent ((psL ps).foldl stR R) a b = ent tb a b:=by
  induction P with
  | @nil rest hb=>
    intro w R H z hH hR hD
    refine ⟨trivial,z,fun a b ha hb'=>?_⟩
    show ent R a b = _
    by_cases q : b = a
    · subst q; exact hD b ha
    · rw [hR a b ha hb' q]
      have h1:=hb a ha
      rw [<- busy_eq w ha] at h1
      unfold busyR at h1
      rw [List.any_eq_false] at h1
      have:=h1 b (List.mem_range.mpr (by omega))
      simp only [Bool.and_eq_true,decide_eq_true_eq,not_and] at this
      have h2:=this q
      have h3:=w.ent_nn ha hb'
      omega
  | @cons rest h pl ps o _ ih=>
    intro w R H z hH hR hD
    have hh:=o.hh
    have hp:=o.hp
    have hne:=o.ne
    have re:=fun a b=>rb_ent w.sz hh hp hne a b
    have z1 : Sz n (stR R (h,some pl)):=putT_sz z hh _
    have e1 : ∀ a b,ent (stR R (h,some pl)) a b = if a = h /\ b = pl then ent R h pl + 1 else ent R a b:=fun a b=>ent_put z hh hp _ a b
    obtain ⟨i1,i2,i3⟩:=ih (rb_wt w o) (stR R (h,some pl)) (stH n H (h,some pl)) z1 (fun a ha=>by
      rw [re a a]
      show (if pl = n then bump H h (-1) else bump (bump H h (-1)) pl 1) a = _
      by_cases q : pl = n
      · rw [if_pos q]
        unfold bump
        by_cases q2 : a = h
        · subst q2; rw [if_pos rfl,hH a ha,if_pos ⟨rfl,rfl⟩,if_neg (fun w=>hne w.2.symm),if_neg (fun w=>by omega)]; omega
        · rw [if_neg q2,hH a ha,if_neg (fun w=>q2 w.1),if_neg (fun w=>q2 w.1),if_neg (fun w=>by omega)]; omega
      · rw [if_neg q]
        unfold bump
        by_cases q2 : a = h
        · subst q2
          rw [if_neg (fun w=>hne w.symm),if_pos rfl,hH a ha,if_pos ⟨rfl,rfl⟩,if_neg (fun w=>hne w.2.symm),if_neg (fun w=>hne w.2.1.symm)]; omega
        · by_cases q3 : a = pl
          · subst q3
            rw [if_pos rfl,if_neg q2,hH a ha,if_neg (fun w=>q2 w.1),if_neg (fun w=>q2 w.1),if_pos ⟨by omega,rfl,rfl⟩]; omega
          · rw [if_neg q3,if_neg q2,hH a ha,if_neg (fun w=>q2 w.1),if_neg (fun w=>q2 w.1),if_neg (fun w=>q3 w.2.1)]; omega)
      (fun a b ha hb q=>by
        rw [e1,re a b]
        by_cases q1 : a = h /\ b = pl
        · obtain ⟨rfl,rfl⟩:=q1
          rw [if_pos ⟨rfl,rfl⟩,hR a b ha hb q,if_neg (fun w=>q w.2),if_pos ⟨rfl,rfl⟩,if_neg (fun w=>q (w.2.2.trans w.2.1.symm))]; omega
        · rw [if_neg q1,hR a b ha hb q,if_neg (fun w=>q (w.2.trans w.1.symm)),if_neg q1,if_neg (fun w=>q (w.2.2.trans w.2.1.symm))]; omega)
      (fun a ha=>by
        rw [e1,if_neg (fun w=>hne (w.2.symm.trans w.1)),hD a ha])
    refine ⟨⟨⟨⟨hh,fun pl' e=>?_⟩,fun _=>?_⟩,i1⟩,i2,i3⟩
    · have : pl = pl':=Option.some.inj e
      subst this
      exact ⟨hp,hne⟩
    · show 1 <= H h
      rw [hH h hh]; have:=o.d; omega
theorem all_ok {n : Nat} {tb : List (List Int)} (w : Wt' n tb) {ps : List (Nat × Nat)} (P : Pth n tb ps) : OkL n (fun _=>0) (mkL tb n ++ psL ps) /\ (mkL tb n ++ psL ps).foldl stR (List.replicate n (zRow n)) = tb:=by
  have w0:=zTab_wt w.n1 w.n8
  have hdn : ∀ g,g < n -> 0 <= ent tb g g:=fun g hg=>w.ent_nn hg (Nat.le_of_lt hg)
  obtain ⟨i1,i2,i3⟩:=mk_fold (mkL tb n) (mkL_mem n) (List.replicate n (zRow n)) (fun _=>0) w0.sz
  have hc:=mkL_cnt hdn n (Nat.le_refl n)
  have hz : ∀ a b,ent (List.replicate n (zRow n)) a b = 0:=fun a b=>by
    unfold ent
    by_cases ha : a < n
    · have e : (List.replicate n (zRow n)).getD a [] = zRow n:=by simp [List.getD,ha]
      rw [e]
      by_cases hb : b < n + 1
      · simp [zRow,List.getD,List.getElem?_replicate,hb]
      · simp [zRow,List.getD,List.getElem?_replicate,hb]
    · have e : (List.replicate n (zRow n)).getD a [] = []:=by simp [List.getD,ha]
      rw [e]; rfl
  obtain ⟨j1,j2,j3⟩:=pth_fold (tb:=tb) P w ((mkL tb n).foldl stR (List.replicate n (zRow n))) ((mkL tb n).foldl (stH n) fun _=>0) i1
    (fun a ha=>by rw [i3,hc,if_pos ha]; omega)
    (fun a b ha hb q=>by rw [i2,hz,if_neg (fun z=>q z.symm)]; omega)
    (fun a ha=>by rw [i2,hz,if_pos rfl,hc,if_pos ha]; omega)
  refine ⟨(okl_app _ _ _).mpr ⟨mk_ok _ (mkL_mem n) _,j1⟩,?_⟩
  rw [List.foldl_append]
  exact tab_ext j2 w.sz j3
theorem rows_mk {n : Nat} {S cells : Store} {tb : List (List Int)} (hl : cells.length = n) (hc : ∀ k,k < n -> cells[k]? = some (.lst ((tb.getD k []).map .int))) : RowsAt n (S ++ cells ++ [.lst ((List.range n).map fun k=>PV.ref (S.length + k))]) (S.length + n) S.length tb:=by
  have hlen : (S ++ cells).length = S.length + n:=by simp [hl]
  refine ⟨?_,fun k hk=>?_,.inr (Nat.le_refl _)⟩
  · rw [<- hlen]; simp
  · rw [List.getElem?_append_left (by omega),List.getElem?_append_right (by omega),Nat.add_sub_cancel_left]
    exact hc k hk
theorem zrows12 (n : Nat) (hn8 : n <= 8) (Γ : Gam) (h0 : Γ[2]? = some (some (.int n))) (S : Store) : compG (gaName 0) mTrue e__law_b_lead_1 [] (capG [none,some 2] Γ) (rangeI 0 n) S = .ok ((List.range n).map fun k=>.ref (S.length + k)) (S ++ List.replicate n (Cell.lst ((zRow n).map .int))):=by
  rw [rangeI0]
  obtain ⟨out,st',e,rfl,rfl⟩:=compG_inv (g:=fun k : Nat=>PV.int (k : Int)) (xs:=List.range n) (ga:=gaName 0) (me:=e__law_b_lead_1) (w:=[]) (Γ0:=capG [none,some 2] Γ) (st:=S)
    (fun i out st'=>out = (List.range i).map (fun k=>PV.ref (S.length + k)) /\ st' = S ++ List.replicate i (Cell.lst ((zRow n).map .int)))
    (fun i out st' _=>by simp)
    (fun i r out st' hr ⟨e1,e2⟩=>by
      subst e1; subst e2
      have hlen : (S ++ List.replicate i (Cell.lst ((zRow n).map .int))).length = S.length + i:=by simp
      refine ⟨_,rfl,.ref (S.length + i),S ++ List.replicate (i + 1) (Cell.lst ((zRow n).map .int)),?_,?_,rfl⟩
      · rw [List.replicate_succ',<- List.append_assoc,<- hlen]
        generalize S ++ List.replicate i (Cell.lst ((zRow n).map .int)) = T
        have hz : (zRow n).map PV.int = List.replicate (n + 1) (.int 0):=by simp [zRow]
        rw [hz]
        have b1 : -9223372036854775808 <= (n : Int) + 1 /\ (n : Int) + 1 < 9223372036854775808 /\ n + 1 <= 1000000:=by omega
        simp -implicitDefEqProofs [capG,h0,e__law_b_lead_1,oRepN,lim_eq,b1]
      · rw [List.range_succ,List.map_append]; rfl)
    ⟨rfl,by simp⟩
  rw [e,List.length_range]
def lstV (r : List Int) : PV:=.lst (r.map .int)
theorem fzL_ints (st : Store) (k : Nat) : ∀ js : List Int,fzL 0 st (k + 1) (js.map .int) = some (js.map .int)
  | []=>by simp [fzL]
  | j :: js=>by simp [fzL,fz,fzL_ints st k js]
theorem fzL_rows {n q : Nat} {S : Store} {tb : List (List Int)} (hr : ∀ k,k < n -> S[q + k]? = some (.lst ((tb.getD k []).map .int))) : ∀ ks : List Nat,(∀ k ∈ ks,k < n) -> fzL 0 S 15 (ks.map fun k=>PV.ref (q + k)) = some (ks.map fun k=>lstV (tb.getD k []))
  | [],_=>by simp [fzL]
  | k :: ks,h=>by
    have ih:=fzL_rows hr ks fun x hx=>h x (List.mem_cons_of_mem _ hx)
    have e:=hr k (h k List.mem_cons_self)
    have e2:=fzL_ints S 13 (tb.getD k [])
    rw [List.map_cons,List.map_cons,fzL,ih]
    have : fz 0 S 15 (.ref (q + k)) = some (lstV (tb.getD k [])):=by
      rw [fz,if_neg (by omega),e]
      show (fzL 0 S 14 _).map PV.lst = _
      rw [e2]; rfl
    rw [this]
    rfl
theorem fz_lsts (S : Store) (tb : List (List Int)) : fz 0 S 16 (.lst (tb.map lstV)) = some (.lst (tb.map lstV)):=by
  have key : ∀ tb : List (List Int),fzL 0 S 15 (tb.map lstV) = some (tb.map lstV):=fun tb=>by
    induction tb with
    | nil=>simp [fzL]
    | cons r tb ih=>
      have e2:=fzL_ints S 13 r
      rw [List.map_cons,fzL,ih]
      have : fz 0 S 15 (lstV r) = some (lstV r):=by
        unfold lstV
        rw [fz,e2]; rfl
      rw [this]
      rfl
  rw [fz,key tb]; rfl
theorem rows_eq {n p q : Nat} {S : Store} {tb : List (List Int)} (R : RowsAt n S p q tb) (w : Wt' n tb) : oEqD S (.ref p) (.lst (tb.map lstV)) = .ok (.bl true) S:=by
  have e1 : fz 0 S 16 (.ref p) = some (.lst (tb.map lstV)):=by
    rw [fz,if_neg (by omega),R.l]
    show (fzL 0 S 15 _).map PV.lst = _
    rw [fzL_rows R.r (List.range n) fun k hk=>List.mem_range.mp hk]
    have:=map_getD14 tb [] lstV
    rw [w.len] at this
    rw [this]; rfl
  have g : good dep (.lst (tb.map lstV)) = true:=by simp [good,dep,lstV]
  have hp:=peq_self g
  unfold oEqD
  rw [e1,fz_lsts]
  simp [g,hp]
theorem ld_start {n P : Nat} {L : List PV} {S0 S1 S2 : Store} {cells : Store} {c : Cell} {R : List (List Int)} {H : Nat -> Int} (w0 : Wt' n R) (R0 : RowsAt n S1 (S0.length + n) S0.length R) (hS1 : S0 ++ cells ++ [c] = S1) (hl1 : S1.length = S0.length + n + 1) (hS2 : S1 ++ [Cell.lst (hasV n H)] = S2) (hP : S0[P]? = some (.lst L)) : LdAt n P (S0.length + n) S0.length (S0.length + n + 1) L S0 S2 R H:=by
  have pre : ∀ i,i < S1.length -> S2[i]? = S1[i]?:=fun i hi=>by rw [<- hS2,List.getElem?_append_left hi]
  refine ⟨⟨by rw [pre _ (by omega)]; exact R0.l,fun k hk=>by rw [pre _ (by omega)]; exact R0.r k hk,R0.d⟩,w0,by rw [<- hS2,<- hl1]; simp,by omega,.inr (by omega),fun i hi=>?_,by rw [<- hS2,List.length_append]; omega,Nat.le_refl _,by omega,by omega,hP⟩
  rw [pre i (by omega),<- hS1,List.append_assoc,List.getElem?_append_left hi]
theorem rep12 (n : Nat) (h8 : n <= 8) (S1 : Store) : oRepN S1 (.lst [.int 0]) (.int n) = .ok (hasV n fun _=>0) S1:=by
  have b1 : -9223372036854775808 <= (n : Int) /\ (n : Int) < 9223372036854775808 /\ n <= 1000000:=by omega
  have : (hasV n fun _=>0) = List.replicate n (.int 0):=by
    unfold hasV
    refine List.ext_getElem? fun i=>?_
    by_cases q : i < n
    · rw [List.getElem?_map,List.getElem?_range q,List.getElem?_replicate,if_pos q]; rfl
    · rw [List.getElem?_eq_none (by simp; omega),List.getElem?_eq_none (by simp; omega)]
  rw [this]
  simp [oRepN,lim_eq,b1]
theorem lead_run {T : PV} {P n p r : Nat} {tv lv : List PV} {S0 S1 S2 S' : Store} {c5 c6 c7 : Option PV}
    (s2 : mSet 2 (mCall cLen (mCons (mVar 0) mNil)) [some T,some (.ref P),none,none,none,none,none,none] S0 = .nx [some T,some (.ref P),some (.int n),none,none,none,none,none] S0)
    (s3 : mSet 3 (mTrk (mCompN [none,some 2] (gaName 0) (mRange1 (mCons (mVar 2) mNil)) mTrue e__law_b_lead_1)) [some T,some (.ref P),some (.int n),none,none,none,none,none] S0 = .nx [some T,some (.ref P),some (.int n),some (.ref p),none,none,none,none] S1)
    (s4 : mSet 4 (mTrk (mRepN (mLst (mCons (mC (.int 0)) mNil)) (mVar 2))) [some T,some (.ref P),some (.int n),some (.ref p),none,none,none,none] S1 = .nx (ldΓ T P n p r none none none) S2)
    (s5 : mFor (gaName 5) (mSeq (mVar 1)) b__law_b_lead_1 (ldΓ T P n p r none none none) S2 = .nx (ldΓ T P n p r c5 c6 c7) S')
    (htv : srcOf S' T = some (tv,[])) (hlr : tv.length <= 1000000) (hc3 : compG (gaName 0) mTrue e__law_b_lead_2 [] (capG [none] (ldΓ T P n p r c5 c6 c7)) tv S' = .ok lv S') (hq : oEqD S' (.ref p) (.lst lv) = .ok (.bl true) S') (hfin : fin S0 (.bl true) S' = .ok (.bl true) S0) : F__law_b_lead [T,.ref P] S0 = .ok (.bl true) S0:=by
  have e6 : mRet (mOp oEqD (mVar 3) (mVal (mCompN [none] (gaName 0) (mSeq (mVar 0)) mTrue e__law_b_lead_2))) (ldΓ T P n p r c5 c6 c7) S' = .rt (.bl true) S':=by
    unfold ldΓ at *
    simp -implicitDefEqProofs [htv,hlr,lim_eq,hc3,hq]
  have run : m__law_b_lead [some T,some (.ref P),none,none,none,none,none,none] S0 = .rt (.bl true) S':=by
    unfold m__law_b_lead
    rw [mSeqS_eq,s2]
    show mSeqS _ _ _ _ = _
    rw [mSeqS_eq,s3]
    show mSeqS _ _ _ _ = _
    rw [mSeqS_eq,s4]
    show mSeqS _ _ _ _ = _
    rw [mSeqS_eq,s5]
    exact e6
  show callF m__law_b_lead 8 _ S0 = _
  unfold callF
  rw [show (([T,.ref P] : List PV).map some ++ List.replicate (8 - [T,PV.ref P].length) none) = [some T,some (.ref P),none,none,none,none,none,none] from rfl,run]
  exact hfin
theorem lead_ok {n P : Nat} {tb : List (List Int)} (w : Wt' n tb) {ps : List (Nat × Nat)} (Pp : Pth n tb ps) (hl : (mkU tb n ++ ps.map (stV n)).length <= 300) {S0 : Store} (hP : S0[P]? = some (.lst (mkU tb n ++ ps.map (stV n)))) : F__law_b_lead [tabV tb,.ref P] S0 = .ok (.bl true) S0:=by
  have h8:=w.n8
  have w0:=zTab_wt w.n1 w.n8
  obtain ⟨ok,hfold⟩:=all_ok w Pp
  have hL : (mkL tb n ++ psL ps).map (spV n) = mkU tb n ++ ps.map (stV n):=by rw [List.map_append,mkL_V,psL_V]
  obtain ⟨L,eL⟩ : ∃ L,mkU tb n ++ ps.map (stV n) = L:=⟨_,rfl⟩
  rw [eL] at hP hL hl
  have hz:=zrows12 n h8 [some (tabV tb),some (.ref P),some (.int n),none,none,none,none,none] rfl S0
  have R0:=rows_mk (S:=S0) (cells:=List.replicate n (Cell.lst ((zRow n).map .int))) (tb:=List.replicate n (zRow n)) (n:=n) (by simp) (fun i hi=>by rw [List.getElem?_replicate,if_pos hi,List.getD,List.getElem?_replicate,if_pos hi]; rfl)
  have hcl : (List.replicate n (Cell.lst ((zRow n).map .int))).length = n:=by simp
  obtain ⟨S1,hS1⟩ : ∃ S1,S0 ++ List.replicate n (Cell.lst ((zRow n).map .int)) ++ [.lst ((List.range n).map fun k=>PV.ref (S0.length + k))] = S1:=⟨_,rfl⟩
  have hl1 : S1.length = S0.length + n + 1:=by rw [<- hS1]; simp [hcl]; omega
  rw [hS1] at R0
  obtain ⟨S2,hS2⟩ : ∃ S2,S1 ++ [Cell.lst (hasV n fun _=>0)] = S2:=⟨_,rfl⟩
  have A:=ld_start (L:=L) w0 R0 hS1 hl1 hS2 hP
  obtain ⟨S',c5,c6,c7,A',e'⟩:=ld_loop (T:=tabV tb) (mkL tb n ++ psL ps) none none none A ok
  rw [hfold] at A'
  rw [hL] at e'
  have hpre : S0 <+: S':=by
    rw [List.prefix_iff_getElem?]
    intro i hi
    rw [A'.keep i hi,List.getElem?_eq_getElem hi]
  have hfin : fin S0 (.bl true) S' = .ok (.bl true) S0:=by unfold fin; rw [if_pos hpre]; simp [fz]
  have hsrc : srcOf S2 (.ref P) = some (L,[(P,L)]):=by
    have:=A.P
    simp [this]
  have hq:=rows_eq A'.rows A'.wt
  have hc2 : ∀ Γ,compG (gaName 0) mTrue e__law_b_lead_2 [] (capG [none] Γ) (tb.map rowV) S' = .ok (tb.map lstV) S':=fun Γ=>by
    refine compG_on _ _ (by simp) fun r hr=>⟨_,rfl,?_⟩
    have : (r.map PV.int).length <= 1000000:=by rw [List.length_map,w.row r hr]; omega
    simp -implicitDefEqProofs [capG,e__law_b_lead_2,rowV,lstV]
  have hln : cLen S0 [tabV tb] = .ok (.int n) S0:=by unfold tabV; simp [w.len]
  have hn1 : -1000000 <= (n : Int) /\ (n : Int) <= 1000000:=by omega
  have hrep:=rep12 n h8 S1
  have hlr : (tb.map rowV).length <= 1000000:=by rw [List.length_map,w.len]; omega
  have hll : L.length <= 1000000:=by omega
  have htv : srcOf S' (tabV tb) = some (tb.map rowV,[]):=rfl
  have s2 : mSet 2 (mCall cLen (mCons (mVar 0) mNil)) [some (tabV tb),some (.ref P),none,none,none,none,none,none] S0 = .nx [some (tabV tb),some (.ref P),some (.int n),none,none,none,none,none] S0:=by
    generalize tabV tb = T at *
    simp -implicitDefEqProofs [hln]
  have s3 : mSet 3 (mTrk (mCompN [none,some 2] (gaName 0) (mRange1 (mCons (mVar 2) mNil)) mTrue e__law_b_lead_1)) [some (tabV tb),some (.ref P),some (.int n),none,none,none,none,none] S0 = .nx [some (tabV tb),some (.ref P),some (.int n),some (.ref (S0.length + n)),none,none,none,none] S1:=by
    rw [List.append_assoc] at hS1
    generalize (List.replicate n (Cell.lst ((zRow n).map .int))) = cells at *
    generalize ((List.range n).map fun k=>PV.ref (S0.length + k)) = refs at *
    generalize tabV tb = T at *
    simp -implicitDefEqProofs [hn1,lim_eq,hz,hcl,hS1]
  have s4 : mSet 4 (mTrk (mRepN (mLst (mCons (mC (.int 0)) mNil)) (mVar 2))) [some (tabV tb),some (.ref P),some (.int n),some (.ref (S0.length + n)),none,none,none,none] S1 = .nx (ldΓ (tabV tb) P n (S0.length + n) (S0.length + n + 1) none none none) S2:=by
    unfold ldΓ
    rw [<- hl1]
    generalize (hasV n fun _=>0) = hv at *
    generalize tabV tb = T at *
    simp -implicitDefEqProofs [hrep,lim_eq,hS2]
  have s5 : mFor (gaName 5) (mSeq (mVar 1)) b__law_b_lead_1 (ldΓ (tabV tb) P n (S0.length + n) (S0.length + n + 1) none none none) S2 = .nx (ldΓ (tabV tb) P n (S0.length + n) (S0.length + n + 1) c5 c6 c7) S':=by
    unfold ldΓ at *
    generalize tabV tb = T at *
    simp -implicitDefEqProofs [hsrc,hll,lim_eq,e',-srcOf_r]
  exact lead_run s2 s3 s4 s5 htv hlr (hc2 _) hq hfin
theorem tot_ent {n : Nat} {tb : List (List Int)} (z : Sz n tb) : totF n tb = upto n fun g=>upto (n + 1) fun j=>ent tb g j:=by
  unfold totF
  refine upto_congr fun g hg=>?_
  have hl:=(z.row hg).2
  generalize hr : tb.getD g [] = r at *
  have e : r = (List.range (n + 1)).map fun j=>r.getD j 0:=by
    have:=map_getD14 r 0 id
    rw [List.map_id,hl] at this
    exact this
  conv=>lhs; rw [e]
  show _ = upto (n + 1) fun j=>(tb.getD g []).getD j 0
  rw [hr]
  rfl
theorem tot_put {n i j : Nat} {tb : List (List Int)} (z : Sz n tb) (hi : i < n) (hj : j <= n) (k : Int) : totF n (putT tb i j (ent tb i j + k)) = totF n tb + k:=by
  have z':=putT_sz (j:=j) z hi (ent tb i j + k)
  rw [tot_ent z',tot_ent z]
  rw [upto_congr (g:=fun g=>(upto (n + 1) fun b=>ent tb g b) + if g = i then k else 0) fun g hg=>by
    rw [upto_congr (g:=fun b=>ent tb g b + if b = j then (if g = i then k else 0) else 0) fun b _=>by
      rw [ent_put z hi hj]
      by_cases q1 : g = i <;> by_cases q2 : b = j <;> simp [q1,q2],upto_add,upto_delta,if_pos (by omega)],upto_add,upto_delta,if_pos hi]
abbrev gΓ (p : Nat) (ns : List Int) (n : Nat) (at' many : Int) (k a7 a8 a9 a10 a11 a12 : Option PV) : Gam:=[some (.fro (ns.map .int)),some (.int n),some (.int at'),some (.int many),some (.int 4),some (.ref p),k,a7,a8,a9,a10,a11,a12]
theorem pick12 {n g : Nat} (hg : g < n) (x : Int) (S : Store) (X : MS) (p : Nat) (ns : List Int) (at' many : Int) (k a10 a11 a12 : Option PV) (w : Int) : ∃ j : Nat,j <= n /\ j ≠ g /\
    (mSeqS (mSet 12 (mVar 1)) (mSeqS (mIfS (toB (mOp oLt (mVar 8) (mC (.int 4)))) (mSet 12 (mOp oMod (mOp oDiv (mVar 7) (mC (.int 40))) (mVar 1))) mNext) (mSeqS (mIfS (toB (mOp oEq (mVar 12) (mVar 9))) (mSet 12 (mVar 1)) mNext) X))) (gΓ p ns n at' many k (some (.int x)) (some (.int w)) (some (.int g)) a10 a11 a12) S = X (gΓ p ns n at' many k (some (.int x)) (some (.int w)) (some (.int g)) a10 a11 (some (.int j))) S:=by
  have hn0 : 0 < n:=by omega
  have hng : ¬ ((n : Int) = g):=by omega
  unfold gΓ
  generalize ns.map PV.int = nv at *
  by_cases q : w < 4
  · obtain ⟨m,hm,em⟩:=modN (x / 40) (n:=n) (by omega)
    by_cases q2 : m = g
    · have q2' : (m : Int) = g:=by omega
      refine ⟨n,Nat.le_refl n,by omega,?_⟩
      simp -implicitDefEqProofs [q,em,q2',hn0]
    · have q2' : ¬ (m : Int) = g:=by omega
      refine ⟨m,by omega,q2,?_⟩
      simp -implicitDefEqProofs [q,em,q2',hn0]
  · refine ⟨n,Nat.le_refl n,by omega,?_⟩
    simp -implicitDefEqProofs [q,hng]
theorem grow_turn {n p q : Nat} {ns : List Int} {S : Store} {tb : List (List Int)} (R : RowsAt n S p q tb) (w : Wt' n tb) (a k : Nat) (hak : a + k <= 1000) (many : Int) (a7 a8 a9 a10 a11 a12 : Option PV) :
    ∃ b7 b8 b9 b10 b11 b12 S' tb',RowsAt n S' p q tb' /\ Wt' n tb' /\ totF n tb' <= totF n tb + 4 /\ b__law_b_grown_1 (gΓ p ns n a many (some (.int k)) a7 a8 a9 a10 a11 a12) S = .nx (gΓ p ns n a many (some (.int k)) b7 b8 b9 b10 b11 b12) S':=by
  have h8n:=w.n8
  have h1n:=w.n1
  have hn0 : 0 < n:=h1n
  have hd:=draw_ok ns (a + k) S hak
  rw [show ((a + k : Nat) : Int) = (a : Int) + k by push_cast; rfl] at hd
  obtain ⟨x,hx⟩ : ∃ x,drawI ns (a + k) = x:=⟨_,rfl⟩
  rw [hx] at hd
  obtain ⟨g,hg,em⟩:=modN (x / 5) h1n
  have hr:=lrights_ok (R.tl w.sz) (by omega) hg
  rw [lr_eq w.sz hg] at hr
  obtain ⟨has,ehas⟩ : ∃ has,rightsF tb g = has:=⟨_,rfl⟩
  rw [ehas] at hr
  have hy:=emod_lt (x / 40) (b:=4) (by omega)
  obtain ⟨y,ey⟩ : ∃ y,1 + x / 40 % 4 = y:=⟨_,rfl⟩
  have s : ∀ X : MS,(mSeqS (mSet 7 (mCallF 2 F__law_b_draw (mCons (mVar 0) (mCons (mOp oAdd (mVar 2) (mVar 6)) mNil))))
    (mSeqS (mSet 8 (mOp oMod (mVar 7) (mC (.int 5))))
    (mSeqS (mSet 9 (mOp oMod (mOp oDiv (mVar 7) (mC (.int 5))) (mVar 1)))
    (mSeqS (mSet 10 (mCallF 2 F__law_b_rights (mCons (mVar 5) (mCons (mVar 9) mNil))))
    (mSeqS (mSet 11 (mOp oAdd (mC (.int 1)) (mOp oMod (mOp oDiv (mVar 7) (mC (.int 40))) (mVar 4)))) X))))) (gΓ p ns n a many (some (.int k)) a7 a8 a9 a10 a11 a12) S = X (gΓ p ns n a many (some (.int k)) (some (.int x)) (some (.int (x % 5))) (some (.int g)) (some (.int has)) (some (.int y)) a12) S:=fun X=>by
    unfold gΓ
    generalize ns.map PV.int = nv at *
    simp -implicitDefEqProofs [hd,em,hn0,hr,ey]
  unfold b__law_b_grown_1
  rw [s]
  obtain ⟨b,hb,ht⟩ : ∃ b : Bool,(b = false -> 1 <= has) /\ (tOrM (toB (mOp oLt (mVar 8) (mC (.int 2)))) (toB (mOp oLt (mVar 10) (mC (.int 1))))) (gΓ p ns n a many (some (.int k)) (some (.int x)) (some (.int (x % 5))) (some (.int g)) (some (.int has)) (some (.int y)) a12) S = .ok b S:=by
    unfold gΓ
    generalize ns.map PV.int = nv at *
    generalize x % 5 = w5 at *
    by_cases q1 : w5 < 2
    · exact ⟨true,fun z=>(by cases z),by simp -implicitDefEqProofs [q1]⟩
    · by_cases q2 : has < 1
      · exact ⟨true,fun z=>(by cases z),by simp -implicitDefEqProofs [q1,q2]⟩
      · exact ⟨false,fun _=>by omega,by simp -implicitDefEqProofs [q1,q2]⟩
  rw [mIfS_eq,ht,sbind_ok]
  have c1:=R.ix hg
  cases b with
  | true=>
    have c2:=R.cell w.sz hg (Nat.le_of_lt hg)
    have he:=w.ent_nn hg (Nat.le_of_lt hg)
    obtain ⟨S1,R1,w1,k1,e1⟩:=put_okE R w (x:=ent tb g g + y) (by omega) hg (Nat.le_of_lt hg) (mVar 5) (mVar 9) (mVar 9) (mOp oAdd (mOp oIx (mOp oIx (mVar 5) (mVar 9)) (mVar 9)) (mVar 11)) (gΓ p ns n a many (some (.int k)) (some (.int x)) (some (.int (x % 5))) (some (.int g)) (some (.int has)) (some (.int y)) a12) (by
        unfold gΓ
        generalize ent tb g g = z at *
        generalize ns.map PV.int = nv at *
        simp -implicitDefEqProofs [c1,c2,-oIx_r]) rfl rfl rfl
    rw [if_pos rfl]
    have ht:=tot_put w.sz hg (Nat.le_of_lt hg) y
    exact ⟨_,_,_,_,_,_,S1,_,R1,w1,by show totF n (putT tb g g _) <= _; omega,e1⟩
  | false=>
    have h1:=hb rfl
    rw [if_neg (by simp)]
    obtain ⟨j,hj,hjg,ej⟩:=pick12 hg x S (mSetIx (mOp oIx (mVar 5) (mVar 9)) (mVar 12) (mOp oAdd (mOp oIx (mOp oIx (mVar 5) (mVar 9)) (mVar 12)) (mCall cMin (mCons (mVar 11) (mCons (mVar 10) mNil))))) p ns a many (some (.int k)) (some (.int has)) (some (.int y)) a12 (x % 5)
    rw [ej]
    have c2:=R.cell w.sz hg hj
    have he:=w.ent_nn hg hj
    obtain ⟨mn,hmn,m0,m1⟩ : ∃ mn : Int,(if has < y then has else y) = mn /\ 0 <= mn /\ mn <= y:=by
      by_cases q : has < y
      · exact ⟨has,if_pos q,by omega,by omega⟩
      · exact ⟨y,if_neg q,by omega,by omega⟩
    obtain ⟨S1,R1,w1,k1,e1⟩:=put_okE R w (x:=ent tb g j + mn) (by omega) hg hj (mVar 5) (mVar 9) (mVar 12) (mOp oAdd (mOp oIx (mOp oIx (mVar 5) (mVar 9)) (mVar 12)) (mCall cMin (mCons (mVar 11) (mCons (mVar 10) mNil)))) (gΓ p ns n a many (some (.int k)) (some (.int x)) (some (.int (x % 5))) (some (.int g)) (some (.int has)) (some (.int y)) (some (.int j))) (by
        unfold gΓ
        generalize ent tb g j = z at *
        generalize ns.map PV.int = nv at *
        simp -implicitDefEqProofs [c1,c2,hmn,-oIx_r]) rfl rfl rfl
    have ht:=tot_put w.sz hg hj mn
    exact ⟨_,_,_,_,_,_,S1,_,R1,w1,by show totF n (putT tb g j _) <= _; omega,e1⟩
theorem tot_zero {n : Nat} (h1 : 1 <= n) (h8 : n <= 8) : totF n (List.replicate n (zRow n)) = 0:=by
  unfold totF
  rw [upto_congr (g:=fun _=>0) fun g hg=>by
    have e : (List.replicate n (zRow n)).getD g [] = zRow n:=by simp [List.getD,hg]
    rw [e]; simp [zRow],upto_zero]
theorem zrowsG (n : Nat) (hn8 : n <= 8) (Γ : Gam) (h0 : Γ[1]? = some (some (.int n))) (S : Store) : compG (gaName 0) mTrue e__law_b_grown_1 [] (capG [none,some 1] Γ) (rangeI 0 n) S = .ok ((List.range n).map fun k=>.ref (S.length + k)) (S ++ List.replicate n (Cell.lst ((zRow n).map .int))):=by
  rw [rangeI0]
  obtain ⟨out,st',e,rfl,rfl⟩:=compG_inv (g:=fun k : Nat=>PV.int (k : Int)) (xs:=List.range n) (ga:=gaName 0) (me:=e__law_b_grown_1) (w:=[]) (Γ0:=capG [none,some 1] Γ) (st:=S)
    (fun i out st'=>out = (List.range i).map (fun k=>PV.ref (S.length + k)) /\ st' = S ++ List.replicate i (Cell.lst ((zRow n).map .int)))
    (fun i out st' _=>by simp)
    (fun i r out st' hr ⟨e1,e2⟩=>by
      subst e1; subst e2
      have hlen : (S ++ List.replicate i (Cell.lst ((zRow n).map .int))).length = S.length + i:=by simp
      refine ⟨_,rfl,.ref (S.length + i),S ++ List.replicate (i + 1) (Cell.lst ((zRow n).map .int)),?_,?_,rfl⟩
      · rw [List.replicate_succ',<- List.append_assoc,<- hlen]
        generalize S ++ List.replicate i (Cell.lst ((zRow n).map .int)) = T
        have hz : (zRow n).map PV.int = List.replicate (n + 1) (.int 0):=by simp [zRow]
        rw [hz]
        have b1 : -9223372036854775808 <= (n : Int) + 1 /\ (n : Int) + 1 < 9223372036854775808 /\ n + 1 <= 1000000:=by omega
        simp -implicitDefEqProofs [capG,h0,e__law_b_grown_1,oRepN,lim_eq,b1]
      · rw [List.range_succ,List.map_append]; rfl)
    ⟨rfl,by simp⟩
  rw [e,List.length_range]
theorem grown_ok (ns : List Int) {n : Nat} (h1 : 1 <= n) (h8 : n <= 8) (y : Nat) (hy : y <= 900) (st : Store) : ∃ S p q tb,RowsAt n S p q tb /\ Wt' n tb /\ totF n tb <= 4 * y /\ F__law_b_grown [.fro (ns.map .int),.int n,.int 2,.int y,.int 4] st = .ok (.ref p) S:=by
  have w0:=zTab_wt h1 h8
  have hz:=zrowsG n h8 [some (.fro (ns.map .int)),some (.int n),some (.int 2),some (.int y),some (.int 4),none,none,none,none,none,none,none,none] rfl st
  have R0:=rows_mk (S:=st) (cells:=List.replicate n (Cell.lst ((zRow n).map .int))) (tb:=List.replicate n (zRow n)) (n:=n) (by simp) (fun i hi=>by rw [List.getElem?_replicate,if_pos hi,List.getD,List.getElem?_replicate,if_pos hi]; rfl)
  have hcl : (List.replicate n (Cell.lst ((zRow n).map .int))).length = n:=by simp
  obtain ⟨S1,hS1⟩ : ∃ S1,st ++ List.replicate n (Cell.lst ((zRow n).map .int)) ++ [.lst ((List.range n).map fun k=>PV.ref (st.length + k))] = S1:=⟨_,rfl⟩
  rw [hS1] at R0
  have t0:=tot_zero h1 h8
  obtain ⟨Γ',S',e,tb,b6,b7,b8,b9,b10,b11,b12,R,w,ht,rfl⟩:=forG_inv (g:=fun k : Nat=>PV.int (k : Int)) (xs:=List.range y) (ga:=gaName 6) (body:=b__law_b_grown_1) (w:=[]) (Γ:=gΓ (st.length + n) ns n 2 y none none none none none none none) (st:=S1)
    (fun i Γ st'=>∃ tb b6 b7 b8 b9 b10 b11 b12,RowsAt n st' (st.length + n) st.length tb /\ Wt' n tb /\ totF n tb <= 4 * i /\ Γ = gΓ (st.length + n) ns n 2 y b6 b7 b8 b9 b10 b11 b12)
    (fun _ _ _ _=>by simp)
    (fun i k Γ st' hx ⟨tb,b6,b7,b8,b9,b10,b11,b12,R,w,ht,e1⟩=>by
      subst e1
      have hk : k < y:=List.mem_range.mp (List.mem_of_getElem? hx)
      obtain ⟨c7,c8,c9,c10,c11,c12,S2,tb2,R2,w2,ht2,e2⟩:=grow_turn (ns:=ns) R w 2 k (by omega) y b7 b8 b9 b10 b11 b12
      exact ⟨_,rfl,_,S2,e2,tb2,_,_,_,_,_,_,_,R2,w2,by push_cast at *; omega,rfl⟩)
    ⟨_,_,_,_,_,_,_,_,R0,w0,by omega,rfl⟩
  rw [List.length_range] at ht
  rw [<- rangeI0] at e
  refine ⟨S',_,_,tb,R,w,ht,?_⟩
  have hn1 : -1000000 <= (n : Int) /\ (n : Int) <= 1000000:=by omega
  have hy1 : -1000000 <= (y : Int) /\ (y : Int) <= 1000000:=by omega
  rw [List.append_assoc] at hS1
  unfold gΓ at *
  generalize (List.replicate n (Cell.lst ((zRow n).map .int))) = cells at *
  generalize ((List.range n).map fun k=>PV.ref (st.length + k)) = refs at *
  generalize ns.map PV.int = nv at *
  simp -implicitDefEqProofs [F__law_b_grown,callK,m__law_b_grown,hn1,hy1,lim_eq,hz,hcl,hS1,e]
abbrev bΓ (p : Nat) (d : Int) (n : Nat) (r : Int) (b4 b5 b6 b7 b8 : Option PV) : Gam:=[some (.ref p),some (.int d),some (.int n),some (.int r),b4,b5,b6,b7,b8]
theorem ring_turn {n p q : Nat} {S : Store} {tb : List (List Int)} (R : RowsAt n S p q tb) (w : Wt' n tb) (h2 : 1 < n) (d r : Int) (f k : Nat) (b6 b7 b8 : Option PV) :
    ∃ S' tb' c6 c7,RowsAt n S' p q tb' /\ Wt' n tb' /\ totF n tb' <= totF n tb + 3 /\ b__law_b_bent_1 (bΓ p d n r (some (.int f)) (some (.int k)) b6 b7 b8) S = .nx (bΓ p d n r (some (.int f)) (some (.int k)) c6 c7 b8) S':=by
  have h8:=w.n8
  have h1:=w.n1
  have hn0 : 0 < n:=h1
  have hm:=emod_lt (r / 4) (b:=(n : Int) - 1) (by omega)
  obtain ⟨v,ev⟩ : ∃ v,2 + r / 4 % ((n : Int) - 1) = v:=⟨_,rfl⟩
  have hv0 : 0 < v:=by omega
  have hv1 : v < 1073741824:=by omega
  have hm1 : (0 : Int) < (n : Int) - 1:=by omega
  have hm2 : (n : Int) - 1 < 1073741824:=by omega
  have hn' : (1 : Int) < n:=by omega
  obtain ⟨i,hi,ei⟩:=modN ((f : Int) + k) h1
  obtain ⟨j,hj,ej⟩:=modN ((f : Int) + ((k : Int) + 1) % v) h1
  have c1:=R.ix hi
  have c2:=R.cell w.sz hi (Nat.le_of_lt hj)
  have he:=w.ent_nn hi (Nat.le_of_lt hj)
  have h3:=emod_lt (r / 16) (b:=3) (by omega)
  obtain ⟨y,ey⟩ : ∃ y,r / 16 % 3 = y:=⟨_,rfl⟩
  have s : ∀ X : MS,(mSeqS (mSet 6 (mOp oMod (mOp oAdd (mVar 4) (mVar 5)) (mVar 2)))
    (mSeqS (mSet 7 (mOp oMod (mOp oAdd (mVar 4) (mOp oMod (mOp oAdd (mVar 5) (mC (.int 1))) (mOp oAdd (mC (.int 2)) (mOp oMod (mOp oDiv (mVar 3) (mC (.int 4))) (mOp (oI fun a b=>.int (a - b)) (mVar 2) (mC (.int 1))))))) (mVar 2))) X)) (bΓ p d n r (some (.int f)) (some (.int k)) b6 b7 b8) S = X (bΓ p d n r (some (.int f)) (some (.int k)) (some (.int i)) (some (.int j)) b8) S:=fun X=>by
    unfold bΓ
    simp -implicitDefEqProofs [ei,hn0,hm1,hm2,hn',ev,hv0,hv1,ej]
  unfold b__law_b_bent_1
  rw [s]
  obtain ⟨S1,R1,w1,k1,e1⟩:=put_okE R w (x:=ent tb i j + (1 + y)) (by omega) hi (Nat.le_of_lt hj) (mVar 0) (mVar 6) (mVar 7) (mOp oAdd (mOp oAdd (mOp oIx (mOp oIx (mVar 0) (mVar 6)) (mVar 7)) (mC (.int 1))) (mOp oMod (mOp oDiv (mVar 3) (mC (.int 16))) (mC (.int 3)))) (bΓ p d n r (some (.int f)) (some (.int k)) (some (.int i)) (some (.int j)) b8) (by
    unfold bΓ
    generalize ent tb i j = z at *
    have : z + 1 + y = z + (1 + y):=by omega
    simp -implicitDefEqProofs [c1,c2,ey,this,-oIx_r]) rfl rfl rfl
  have ht:=tot_put w.sz hi (Nat.le_of_lt hj) (1 + y)
  exact ⟨S1,_,_,_,R1,w1,by show totF n (putT tb i j _) <= _; omega,e1⟩
theorem tot_rows {n p q : Nat} {S : Store} {tb : List (List Int)} (R : RowsAt n S p q tb) (w : Wt' n tb) (Γ : Gam) : compG (gaName 0) mTrue e__law_b_bent_1 [(p,(List.range n).map fun k=>PV.ref (q + k))] (capG [none] Γ) ((List.range n).map fun k=>PV.ref (q + k)) S = .ok (((List.range n).map fun k=>(tb.getD k []).sum).map .int) S:=by
  have h8:=w.n8
  rw [List.map_map]
  refine compG_on _ _ (by simp [wOk,R.l]) fun k hk=>⟨_,rfl,?_⟩
  have hk:=List.mem_range.mp hk
  have g:=R.r k hk
  have hl : (tb.getD k []).length <= 1000000:=by rw [(w.sz.row hk).2]; omega
  show _ = Res.ok (PV.int (tb.getD k []).sum) S
  generalize q + k = t at *
  generalize tb.getD k [] = r at *
  have hc : cInts (fun ns=>some (.int ns.sum)) S [.ref t] = .ok (.int r.sum) S:=by
    have hs : seqOf S (.ref t) = some (r.map .int):=by simp [seqOf,lstOf,g]
    simp only [cInts,hs,Option.bind_some,ints_map]
    rfl
  simp -implicitDefEqProofs [capG,e__law_b_bent_1,hc]
theorem tup12 {n p q : Nat} {S : Store} {tb : List (List Int)} (R : RowsAt n S p q tb) (w : Wt' n tb) (me : ME) (hme : me = mCall cTuple (mCons (mVar 0) mNil)) (Γ : Gam) : compG (gaName 0) mTrue me [(p,(List.range n).map fun k=>PV.ref (q + k))] (capG [none] Γ) ((List.range n).map fun k=>PV.ref (q + k)) S = .ok (tb.map rowV) S:=by
  subst hme
  have e : tb.map rowV = (List.range n).map fun k=>rowV (tb.getD k []):=by
    have:=map_getD14 tb [] rowV
    rw [w.len] at this
    exact this
  rw [e]
  refine compG_on _ _ (by simp [wOk,R.l]) fun k hk=>⟨_,rfl,?_⟩
  have g:=R.r k (List.mem_range.mp hk)
  generalize q + k = t at *
  simp -implicitDefEqProofs [capG,g]
  rfl
theorem bent_ok {n p q : Nat} {S : Store} {tb : List (List Int)} (R : RowsAt n S p q tb) (w : Wt' n tb) (ht : totF n tb <= 64) (d : Int) : ∃ S' tb',Wt' n tb' /\ totF n tb' <= 306 /\ F__law_b_bent [.ref p,.int d] S = .ok (tabV tb') S':=by
  have h8:=w.n8
  have h1:=w.n1
  have hn0 : 0 < n:=h1
  obtain ⟨r,er⟩ : ∃ r,d / 24 = r:=⟨_,rfl⟩
  have hl : ListAt S (.ref p) ((List.range n).map fun k=>PV.ref (q + k)):=.inr (.inr ⟨_,rfl,R.l⟩)
  have hlen : cLen S [.ref p] = .ok (.int n) S:=by rw [hl.len]; simp
  obtain ⟨S1,tb1,b4,b5,b6,b7,R1,w1,ht1,s4⟩ : ∃ S1 tb1 b4 b5 b6 b7,RowsAt n S1 p q tb1 /\ Wt' n tb1 /\ totF n tb1 <= 88 /\ ∀ X : MS,(mSeqS (mSet 2 (mCall cLen (mCons (mVar 0) mNil)))
    (mSeqS (mSet 3 (mOp oDiv (mVar 1) (mC (.int 24))))
    (mSeqS (mIfS (tAndM (toB (mOp oEq (mOp oMod (mVar 1) (mC (.int 4))) (mC (.int 3)))) (toB (mOp (oI fun a b=>.bl (decide (b < a))) (mVar 2) (mC (.int 1))))) (mSeqS (mSet 4 (mOp oMod (mVar 3) (mVar 2)))
    (mFor (gaName 5) (mRange1 (mCons (mOp oAdd (mC (.int 2)) (mOp oMod (mOp oDiv (mVar 3) (mC (.int 4))) (mOp (oI fun a b=>.int (a - b)) (mVar 2) (mC (.int 1))))) mNil)) b__law_b_bent_1)) mNext) X))) [some (.ref p),some (.int d),none,none,none,none,none,none,none] S = X (bΓ p d n r b4 b5 b6 b7 none) S1:=by
    by_cases q1 : d % 4 = 3
    · by_cases q2 : 1 < n
      · have q2' : (1 : Int) < n:=by omega
        obtain ⟨f,hf,ef⟩:=modN r h1
        have hm:=emod_lt (r / 4) (b:=(n : Int) - 1) (by omega)
        obtain ⟨v,hv,ev⟩ : ∃ v : Nat,v <= n /\ 2 + r / 4 % ((n : Int) - 1) = v:=⟨(2 + r / 4 % ((n : Int) - 1)).toNat,by omega,by omega⟩
        have hm1 : (0 : Int) < (n : Int) - 1:=by omega
        have hm2 : (n : Int) - 1 < 1073741824:=by omega
        have hv1 : -1000000 <= (v : Int) /\ (v : Int) <= 1000000:=by omega
        obtain ⟨Γ',S',e,tb',b5,b6,b7,R',w',ht',rfl⟩:=forG_inv (g:=fun k : Nat=>PV.int (k : Int)) (xs:=List.range v) (ga:=gaName 5) (body:=b__law_b_bent_1) (w:=[]) (Γ:=bΓ p d n r (some (.int f)) none none none none) (st:=S)
          (fun i Γ st'=>∃ tb' b5 b6 b7,RowsAt n st' p q tb' /\ Wt' n tb' /\ totF n tb' <= totF n tb + 3 * i /\ Γ = bΓ p d n r (some (.int f)) b5 b6 b7 none)
          (fun _ _ _ _=>by simp)
          (fun i k Γ st' hx ⟨tb',b5,b6,b7,R',w',ht',e1⟩=>by
            subst e1
            obtain ⟨S2,tb2,c6,c7,R2,w2,ht2,e2⟩:=ring_turn R' w' q2 d r f k b6 b7 none
            exact ⟨_,rfl,_,S2,e2,tb2,_,_,_,R2,w2,by push_cast at *; omega,rfl⟩)
          ⟨_,_,_,_,R,w,by omega,rfl⟩
        rw [List.length_range] at ht'
        rw [<- rangeI0] at e
        refine ⟨S',tb',some (.int f),b5,b6,b7,R',w',by omega,fun X=>?_⟩
        unfold bΓ at *
        simp -implicitDefEqProofs [hlen,er,q1,q2,q2',ef,hn0,hm1,hm2,ev,hv1,lim_eq,e,-cLen_r]
      · have q2' : ¬ (1 : Int) < n:=by omega
        refine ⟨S,tb,none,none,none,none,R,w,by omega,fun X=>?_⟩
        unfold bΓ
        simp -implicitDefEqProofs [hlen,er,q1,q2,q2',-cLen_r]
    · refine ⟨S,tb,none,none,none,none,R,w,by omega,fun X=>?_⟩
      unfold bΓ
      simp -implicitDefEqProofs [hlen,er,q1,-cLen_r]
  obtain ⟨i,hi,ei⟩:=modN r h1
  obtain ⟨j,hj,ej⟩ : ∃ j : Nat,j <= n /\ r / 4 % ((n : Int) + 1) = j:=by
    have:=emod_lt (r / 4) (b:=(n : Int) + 1) (by omega)
    exact ⟨(r / 4 % ((n : Int) + 1)).toNat,by omega,by omega⟩
  have hp1 : (0 : Int) < (n : Int) + 1:=by omega
  have hp2 : (n : Int) + 1 < 1073741824:=by omega
  have s5 : ∀ X : MS,(mSeqS (mSet 6 (mOp oMod (mVar 3) (mVar 2)))
    (mSeqS (mSet 7 (mOp oMod (mOp oDiv (mVar 3) (mC (.int 4))) (mOp oAdd (mVar 2) (mC (.int 1))))) X)) (bΓ p d n r b4 b5 b6 b7 none) S1 = X (bΓ p d n r b4 b5 (some (.int i)) (some (.int j)) none) S1:=fun X=>by
    unfold bΓ
    simp -implicitDefEqProofs [ei,hn0,hp1,hp2,ej]
  obtain ⟨S2,tb2,R2,w2,ht2,s6⟩ : ∃ S2 tb2,RowsAt n S2 p q tb2 /\ Wt' n tb2 /\ totF n tb2 <= 88 /\ (mIfS (tAndM (toB (mOp oEq (mOp oMod (mOp oDiv (mVar 1) (mC (.int 4))) (mC (.int 6))) (mC (.int 5)))) (toB (mOp (oI fun a b=>.bl (decide (b < a))) (mOp oIx (mOp oIx (mVar 0) (mVar 6)) (mVar 7)) (mC (.int 0))))) (mSetIx (mOp oIx (mVar 0) (mVar 6)) (mVar 7) (mOp (oI fun a b=>.int (a - b)) (mOp oIx (mOp oIx (mVar 0) (mVar 6)) (mVar 7)) (mC (.int 1)))) mNext) (bΓ p d n r b4 b5 (some (.int i)) (some (.int j)) none) S1 = .nx (bΓ p d n r b4 b5 (some (.int i)) (some (.int j)) none) S2:=by
    have c1:=R1.ix hi
    have c2:=R1.cell w1.sz hi hj
    by_cases q1 : d / 4 % 6 = 5
    · by_cases q2 : 0 < ent tb1 i j
      · obtain ⟨S2,R2,w2,k2,e2⟩:=put_okE R1 w1 (x:=ent tb1 i j + -1) (by omega) hi hj (mVar 0) (mVar 6) (mVar 7) (mOp (oI fun a b=>.int (a - b)) (mOp oIx (mOp oIx (mVar 0) (mVar 6)) (mVar 7)) (mC (.int 1))) (bΓ p d n r b4 b5 (some (.int i)) (some (.int j)) none) (by
          unfold bΓ
          generalize ent tb1 i j = z at *
          have : z - 1 = z + -1:=by omega
          simp -implicitDefEqProofs [c1,c2,this,-oIx_r]) rfl rfl rfl
        have ht:=tot_put w1.sz hi hj (-1)
        refine ⟨S2,_,R2,w2,by show totF n (putT tb1 i j _) <= _; omega,?_⟩
        have t : (tAndM (toB (mOp oEq (mOp oMod (mOp oDiv (mVar 1) (mC (.int 4))) (mC (.int 6))) (mC (.int 5)))) (toB (mOp (oI fun a b=>.bl (decide (b < a))) (mOp oIx (mOp oIx (mVar 0) (mVar 6)) (mVar 7)) (mC (.int 0))))) (bΓ p d n r b4 b5 (some (.int i)) (some (.int j)) none) S1 = .ok true S1:=by
          unfold bΓ
          simp -implicitDefEqProofs [q1,c1,c2,q2,-oIx_r]
        rw [mIfS_eq,t,sbind_ok,if_pos rfl]
        exact e2
      · refine ⟨S1,tb1,R1,w1,ht1,?_⟩
        unfold bΓ
        simp -implicitDefEqProofs [q1,c1,c2,q2,-oIx_r]
    · refine ⟨S1,tb1,R1,w1,ht1,?_⟩
      unfold bΓ
      simp -implicitDefEqProofs [q1]
  obtain ⟨S3,tb3,b8,R3,w3,ht3,s7⟩ : ∃ S3 tb3 b8,RowsAt n S3 p q tb3 /\ Wt' n tb3 /\ totF n tb3 <= 306 /\ (mIfS (toB (mOp oEq (mOp oMod (mOp oDiv (mVar 1) (mC (.int 4))) (mC (.int 12))) (mC (.int 4)))) (mSeqS (mSet 8 (mCall (cInts fun ns=>some (.int ns.sum)) (mCons (mVal (mCompN [none] (gaName 0) (mSeq (mVar 0)) mTrue e__law_b_bent_1)) mNil)))
    (mSetIx (mOp oIx (mVar 0) (mVar 6)) (mVar 6) (mOp oAdd (mOp oIx (mOp oIx (mVar 0) (mVar 6)) (mVar 6)) (mCall cMax (mCons (mC (.int 0)) (mCons (mOp (oI fun a b=>.int (a - b)) (mOp oAdd (mC (.int 299)) (mOp oMod (mOp oDiv (mVar 3) (mC (.int 32))) (mC (.int 8)))) (mVar 8)) mNil)))))) mNext) (bΓ p d n r b4 b5 (some (.int i)) (some (.int j)) none) S2 = .nx (bΓ p d n r b4 b5 (some (.int i)) (some (.int j)) b8) S3:=by
    by_cases q1 : d / 4 % 12 = 4
    · have c1:=R2.ix hi
      have c2:=R2.cell w2.sz hi (Nat.le_of_lt hi)
      have he:=w2.ent_nn hi (Nat.le_of_lt hi)
      have h7:=emod_lt (r / 32) (b:=8) (by omega)
      obtain ⟨y,ey⟩ : ∃ y,r / 32 % 8 = y:=⟨_,rfl⟩
      obtain ⟨mx,hmx,m0,m1⟩ : ∃ mx : Int,(if totF n tb2 < 299 + y then 299 + y - totF n tb2 else 0) = mx /\ 0 <= mx /\ totF n tb2 + mx <= 306:=by
        by_cases q : totF n tb2 < 299 + y
        · exact ⟨_,if_pos q,by omega,by omega⟩
        · exact ⟨0,if_neg q,by omega,by omega⟩
      obtain ⟨S3,R3,w3,k3,e3⟩:=put_okE R2 w2 (x:=ent tb2 i i + mx) (by omega) hi (Nat.le_of_lt hi) (mVar 0) (mVar 6) (mVar 6) (mOp oAdd (mOp oIx (mOp oIx (mVar 0) (mVar 6)) (mVar 6)) (mCall cMax (mCons (mC (.int 0)) (mCons (mOp (oI fun a b=>.int (a - b)) (mOp oAdd (mC (.int 299)) (mOp oMod (mOp oDiv (mVar 3) (mC (.int 32))) (mC (.int 8)))) (mVar 8)) mNil)))) (bΓ p d n r b4 b5 (some (.int i)) (some (.int j)) (some (.int (totF n tb2)))) (by
        unfold bΓ
        generalize totF n tb2 = tt at *
        generalize ent tb2 i i = z at *
        simp -implicitDefEqProofs [c1,c2,ey,hmx,-oIx_r]) rfl rfl rfl
      have ht:=tot_put w2.sz hi (Nat.le_of_lt hi) mx
      refine ⟨S3,_,some (.int (totF n tb2)),R3,w3,by show totF n (putT tb2 i i _) <= _; omega,?_⟩
      have t : (toB (mOp oEq (mOp oMod (mOp oDiv (mVar 1) (mC (.int 4))) (mC (.int 12))) (mC (.int 4)))) (bΓ p d n r b4 b5 (some (.int i)) (some (.int j)) none) S2 = .ok true S2:=by
        unfold bΓ
        simp -implicitDefEqProofs [q1]
      have hc:=tot_rows R2 w2 (bΓ p d n r b4 b5 (some (.int i)) (some (.int j)) none)
      have hs2 : srcOf S2 (.ref p) = some ((List.range n).map (fun k=>PV.ref (q + k)),[(p,(List.range n).map fun k=>PV.ref (q + k))]):=by
        have:=R2.l
        simp [this]
      have hrl : ((List.range n).map fun k=>PV.ref (q + k)).length <= 1000000:=by simp; omega
      have hsum : ((List.range n).map fun k=>(tb2.getD k []).sum).sum = totF n tb2:=rfl
      have s8 : mSet 8 (mCall (cInts fun ns=>some (.int ns.sum)) (mCons (mVal (mCompN [none] (gaName 0) (mSeq (mVar 0)) mTrue e__law_b_bent_1)) mNil)) (bΓ p d n r b4 b5 (some (.int i)) (some (.int j)) none) S2 = .nx (bΓ p d n r b4 b5 (some (.int i)) (some (.int j)) (some (.int (totF n tb2)))) S2:=by
        unfold bΓ at *
        generalize ((List.range n).map fun k=>PV.ref (q + k)) = refs at *
        generalize ((List.range n).map fun k=>(tb2.getD k []).sum) = ss at *
        simp -implicitDefEqProofs [hs2,hrl,lim_eq,hc,hsum,-srcOf_r]
      rw [mIfS_eq,t,sbind_ok,if_pos rfl,mSeqS_eq,s8]
      exact e3
    · refine ⟨S2,tb2,none,R2,w2,by omega,?_⟩
      unfold bΓ
      simp -implicitDefEqProofs [q1]
  have hc:=tup12 R3 w3 e__law_b_bent_2 rfl (bΓ p d n r b4 b5 (some (.int i)) (some (.int j)) b8)
  have hs3 : srcOf S3 (.ref p) = some ((List.range n).map (fun k=>PV.ref (q + k)),[(p,(List.range n).map fun k=>PV.ref (q + k))]):=by
    have:=R3.l
    simp [this]
  have hrl : ((List.range n).map fun k=>PV.ref (q + k)).length <= 1000000:=by simp; omega
  have hT : PV.tup (tb3.map rowV) = tabV tb3:=rfl
  refine ⟨S3,tb3,w3,ht3,?_⟩
  have s9 : mRet (mCall cTuple (mCons (mVal (mCompN [none] (gaName 0) (mSeq (mVar 0)) mTrue e__law_b_bent_2)) mNil)) (bΓ p d n r b4 b5 (some (.int i)) (some (.int j)) b8) S3 = .rt (tabV tb3) S3:=by
    unfold bΓ at *
    generalize ((List.range n).map fun k=>PV.ref (q + k)) = refs at *
    generalize tb3.map rowV = tv at *
    simp -implicitDefEqProofs [hs3,hrl,lim_eq,hc,hT,-srcOf_r]
  have run : m__law_b_bent [some (.ref p),some (.int d),none,none,none,none,none,none,none] S = .rt (tabV tb3) S3:=by
    unfold m__law_b_bent
    rw [s4,s5,mSeqS_eq,s6]
    show mSeqS _ _ _ _ = _
    rw [mSeqS_eq,s7]
    exact s9
  show callK m__law_b_bent 9 _ S = _
  unfold callK
  rw [show (([.ref p,.int d] : List PV).map some ++ List.replicate (9 - [PV.ref p,PV.int d].length) none) = [some (.ref p),some (.int d),none,none,none,none,none,none,none] from rfl,run]
def lcF (n : Nat) (tb : List (List Int)) (h : Nat) : Bool:=decide (0 <= rightsF tb h) && (!busyF tb h || (knownF n tb).getD h false)
theorem lcF_all (n : Nat) (tb : List (List Int)) : (List.range n).all (lcF n tb) = comesB n tb:=by
  unfold comesB reachF
  rw [Bool.eq_iff_iff,Bool.and_eq_true,List.all_eq_true,List.all_eq_true,List.all_eq_true]
  unfold lcF
  constructor
  · intro h
    refine ⟨fun x hx=>?_,fun x hx=>?_⟩
    · have:=h x hx; rw [Bool.and_eq_true] at this; exact this.1
    · have:=h x hx; rw [Bool.and_eq_true] at this; rw [Bool.or_comm]; exact this.2
  · rintro ⟨h1,h2⟩ x hx
    rw [Bool.and_eq_true]
    exact ⟨h1 x hx,by rw [Bool.or_comm]; exact h2 x hx⟩
theorem lcomes12 {n : Nat} {tb : List (List Int)} (w : Wt' n tb) (st : Store) : F__law_b_comes [tabV tb] st = .ok (.bl (comesB n tb)) st:=by
  have h8:=w.n8
  have z:=w.sz
  have hn1 : -1000000 <= (n : Int) /\ (n : Int) <= 1000000:=by omega
  have hln : cLen st [tabV tb] = .ok (.int n) st:=by simp [tabV,z.1]
  have hk:=known_ok z (by omega) st
  have hkl:=knownF_len n tb
  have L:=forG_search (fun k : Nat=>PV.int (k : Int)) (fun Γ=>∃ g,Γ = [some (tabV tb),some (.int n),some (.lst ((knownF n tb).map .bl)),g]) (lcF n tb) (.bl false) (ga:=gaName 3) (body:=b__law_b_comes_1) (w:=[]) (st:=st) (by simp) (xs:=List.range n) (fun h hh Γ ⟨g,e⟩=>by
    subst e
    have hh:=List.mem_range.mp hh
    have hb:=busyR_ok z (by omega) hh st
    rw [busy_eq w hh] at hb
    have hr:=lrights_ok (TabLike.tab z st) (by omega) hh
    rw [lr_eq z hh] at hr
    have x1 : oIx st (.lst ((knownF n tb).map .bl)) (.int h) = .ok (.bl ((knownF n tb).getD h false)) st:=by
      rw [oIx_lst,atI_map,Sm.atI_get (getD_some (by omega) false)]; rfl
    refine ⟨_,rfl,?_⟩
    show (_ -> ∃ Γ2,_ /\ b__law_b_comes_1 [some (tabV tb),some (.int n),some (.lst ((knownF n tb).map .bl)),some (.int h)] _ = _) /\ (_ -> b__law_b_comes_1 [some (tabV tb),some (.int n),some (.lst ((knownF n tb).map .bl)),some (.int h)] _ = _)
    unfold lcF
    generalize (knownF n tb).getD h false = kb at *
    generalize busyF tb h = bb at *
    generalize rightsF tb h = x at *
    generalize (knownF n tb).map PV.bl = kv at *
    generalize tabV tb = T at *
    have hex : ∃ Γ2,(∃ g,Γ2 = [some T,some (.int n),some (.lst kv),g]) /\ SR.nx [some T,some (.int n),some (.lst kv),some (.int h)] st = .nx Γ2 st:=⟨_,⟨_,rfl⟩,rfl⟩
    by_cases q : x < 0
    · have q' : ¬ 0 <= x:=by omega
      refine ⟨fun hp=>by simp [q'] at hp,fun _=>?_⟩
      simp -implicitDefEqProofs [b__law_b_comes_1,hr,q]
    · have q' : 0 <= x:=by omega
      cases bb with
      | false=>
        refine ⟨fun _=>?_,fun hp=>by simp [q'] at hp⟩
        refine ⟨[some T,some (.int n),some (.lst kv),some (.int h)],⟨_,rfl⟩,?_⟩
        simp -implicitDefEqProofs [b__law_b_comes_1,hr,q,hb]
      | true=>
        cases kb with
        | false=>
          refine ⟨fun hp=>by simp at hp,fun _=>?_⟩
          simp -implicitDefEqProofs [b__law_b_comes_1,hr,q,hb,x1,-oIx_lst]
        | true=>
          refine ⟨fun _=>?_,fun hp=>by simp [q'] at hp⟩
          refine ⟨[some T,some (.int n),some (.lst kv),some (.int h)],⟨_,rfl⟩,?_⟩
          simp -implicitDefEqProofs [b__law_b_comes_1,hr,q,hb,x1,-oIx_lst])
    [some (tabV tb),some (.int n),some (.lst ((knownF n tb).map .bl)),none] ⟨_,rfl⟩
  rw [lcF_all,<- rangeI0] at L
  cases hb : comesB n tb with
  | true=>
    obtain ⟨Γ',⟨g,rfl⟩,e⟩:=L.1 hb
    generalize (knownF n tb).map PV.bl = kv at *
    generalize tabV tb = T at *
    simp -implicitDefEqProofs [F__law_b_comes,callF,m__law_b_comes,hln,hk,hn1,lim_eq,e]
  | false=>
    have e:=L.2 hb
    generalize (knownF n tb).map PV.bl = kv at *
    generalize tabV tb = T at *
    simp -implicitDefEqProofs [F__law_b_comes,callF,m__law_b_comes,hln,hk,hn1,lim_eq,e]
theorem trows12 (me : ME) (hme : me = mTrk (mListN (mVar 0))) (tb : List (List Int)) (Γ : Gam) (S : Store) : compG (gaName 0) mTrue me [] (capG [none] Γ) (tb.map rowV) S = .ok ((List.range tb.length).map fun k=>.ref (S.length + k)) (S ++ tb.map fun r=>Cell.lst (r.map .int)):=by
  subst hme
  obtain ⟨out,st',e,rfl,rfl⟩:=compG_inv (g:=rowV) (xs:=tb) (ga:=gaName 0) (me:=mTrk (mListN (mVar 0))) (w:=[]) (Γ0:=capG [none] Γ) (st:=S)
    (fun i out st'=>out = (List.range i).map (fun k=>PV.ref (S.length + k)) /\ st' = S ++ (tb.take i).map fun r=>Cell.lst (r.map .int))
    (fun i out st' _=>by simp)
    (fun i r out st' hr ⟨e1,e2⟩=>by
      subst e1; subst e2
      have hil:=(List.getElem?_eq_some_iff.mp hr).1
      have hlen : (S ++ (tb.take i).map fun r=>Cell.lst (r.map .int)).length = S.length + i:=by
        rw [List.length_append,List.length_map,List.length_take,Nat.min_eq_left (by omega)]
      have e3 : tb.take (i + 1) = tb.take i ++ [r]:=by
        rw [List.take_add_one,hr]; rfl
      refine ⟨_,rfl,.ref (S.length + i),S ++ (tb.take (i + 1)).map fun r=>Cell.lst (r.map .int),?_,?_,rfl⟩
      · rw [e3,List.map_append,<- List.append_assoc,<- hlen]
        generalize S ++ (tb.take i).map (fun r=>Cell.lst (r.map .int)) = T
        simp -implicitDefEqProofs [capG,rowV]
      · rw [List.range_succ,List.map_append]; rfl)
    ⟨rfl,by simp⟩
  rw [e,List.take_length]
abbrev lw12 (ns : List Int) (d : Int) (n : Nat) (b3 : Option PV) (tb : List (List Int)) (b5 b6 b7 : Option PV) : Gam:=[some (.fro (ns.map .int)),some (.int d),some (.int n),b3,some (tabV tb),b5,b6,b7]
theorem ca_of {n : Nat} {tb : List (List Int)} (hc : comesB n tb = true) : Ca n tb:=by
  unfold comesB at hc
  rw [Bool.and_eq_true] at hc
  exact Ca.of_reach (fun h hh=>by have:=List.all_eq_true.mp hc.1 h (List.mem_range.mpr hh); simpa using this) hc.2
theorem turn12 {n : Nat} (ns : List Int) (d : Int) (b3 : Option PV) {tb : List (List Int)} (w : Wt' n tb) (b5 b6 b7 : Option PV) (S : Store) : ∃ c6 S',b_law_1 (lw12 ns d n b3 tb b5 b6 b7) S = .nx (lw12 ns d n b3 tb b5 c6 b7) S':=by
  have h8:=w.n8
  have hlr : (tb.map rowV).length <= 1000000:=by rw [List.length_map,w.len]; omega
  have et:=tot_sum w.sz
  cases hc : comesB n tb with
  | false=>
    have e1:=told12_table w hc S
    have e2:=lcomes12 w S
    rw [hc] at e2
    refine ⟨some (.str "table"),S,?_⟩
    unfold lw12
    generalize ns.map PV.int = nv at *
    generalize tabV tb = T at *
    simp -implicitDefEqProofs [b_law_1,e1,e2]
  | true=>
    have c:=ca_of hc
    by_cases q : 300 < totF n tb
    · have e1:=told12_many w c q S
      have e2:=lcomes12 w S
      rw [hc] at e2
      have e3:=tot_ok w.sz h8 e_law_1 rfl (lw12 ns d n b3 tb b5 (some (.str "many")) b7) S
      refine ⟨some (.str "many"),S,?_⟩
      have hsrc : srcOf S (tabV tb) = some (tb.map rowV,[]):=rfl
      unfold lw12 at *
      generalize hsums : tb.map List.sum = ss at *
      generalize totF n tb = tt at *
      generalize ns.map PV.int = nv at *
      generalize tb.map rowV = tv at *
      generalize tabV tb = T at *
      simp -implicitDefEqProofs [b_law_1,e1,e2,hsrc,hlr,lim_eq,e3,et,q]
    · obtain ⟨ps,hp,hl,e1⟩:=told12_steps w c (by omega) S
      obtain ⟨S1,hS1⟩ : ∃ S1,S ++ [Cell.lst (mkU tb n ++ ps.map (stV n))] = S1:=⟨_,rfl⟩
      have hP : S1[S.length]? = some (.lst (mkU tb n ++ ps.map (stV n))):=by rw [<- hS1]; simp
      rw [hS1] at e1
      have e2:=lcomes12 w S1
      rw [hc] at e2
      have e4:=lead_ok w hp hl hP
      have e3:=tot_ok w.sz h8 e_law_1 rfl (lw12 ns d n b3 tb b5 (some (.ref S.length)) b7) S1
      have hsrc : srcOf S1 (tabV tb) = some (tb.map rowV,[]):=rfl
      have hi : isI "list" (.ref S.length) = true:=rfl
      refine ⟨some (.ref S.length),S1.set S.length (.lst []),?_⟩
      generalize mkU tb n ++ ps.map (stV n) = L at *
      generalize S.length = P at *
      unfold lw12 at *
      generalize hsums : tb.map List.sum = ss at *
      generalize totF n tb = tt at *
      generalize ns.map PV.int = nv at *
      generalize tb.map rowV = tv at *
      generalize tabV tb = T at *
      simp -implicitDefEqProofs [b_law_1,e1,e2,hsrc,hlr,lim_eq,e3,et,q,hi,e4,hP,mtClear,chg]
theorem rights_tot {n h : Nat} {tb : List (List Int)} (w : Wt' n tb) (hh : h < n) : rightsF tb h <= totF n tb:=by
  have z:=w.sz
  rw [rightsF_eq z hh,tot_ent z]
  have nn : ∀ a b,a < n -> b <= n -> 0 <= ent tb a b:=fun a b ha hb=>w.ent_nn ha hb
  have c1 : upto n (fun o=>ent tb o h) <= upto n fun g=>upto (n + 1) fun j=>ent tb g j:=by
    have key : ∀ m,m <= n -> upto m (fun o=>ent tb o h) <= upto m fun g=>upto (n + 1) fun j=>ent tb g j:=fun m=>by
      induction m with
      | zero=>intro _; exact Int.le_refl _
      | succ m ih=>
        intro hm
        rw [upto_succ,upto_succ]
        have:=ih (by omega)
        have h2 : ent tb m h <= upto (n + 1) fun j=>ent tb m j:=upto_le (f:=fun j=>ent tb m j) (fun j hj=>nn m j (by omega) (by omega)) (by omega)
        omega
    exact key n (Nat.le_refl n)
  have c2 : ent tb h h <= upto n fun j=>ent tb h j:=upto_le (f:=fun j=>ent tb h j) (fun j hj=>nn h j hh (by omega)) hh
  have c3:=nn h n hh (Nat.le_refl n)
  omega
theorem great12 {n : Nat} (ns : List Int) (d : Int) (b3 : Option PV) {tb : List (List Int)} (w : Wt' n tb) (b5 b6 b7 : Option PV) (S : Store) (me : ME) (hme : me = mTrk (mListN (mVar 0))) : ∃ S1 p q,RowsAt n S1 p q tb /\ mSet 7 (mTrk (mCompN [none] (gaName 0) (mSeq (mVar 4)) mTrue me)) (lw12 ns d n b3 tb b5 b6 b7) S = .nx (lw12 ns d n b3 tb b5 b6 (some (.ref p))) S1:=by
  have h8:=w.n8
  have ht:=trows12 me hme tb (lw12 ns d n b3 tb b5 b6 b7) S
  have R:=rows_mk (S:=S) (cells:=tb.map fun r=>Cell.lst (r.map .int)) (tb:=tb) (n:=n) (by rw [List.length_map,w.len]) (fun i hi=>by rw [List.getElem?_map,(w.sz.row hi).1]; rfl)
  have hcl : (tb.map fun r=>Cell.lst (r.map .int)).length = n:=by rw [List.length_map,w.len]
  rw [w.len] at ht
  obtain ⟨S0,hS0⟩ : ∃ S0,S ++ (tb.map fun r=>Cell.lst (r.map .int)) ++ [.lst ((List.range n).map fun k=>PV.ref (S.length + k))] = S0:=⟨_,rfl⟩
  rw [hS0] at R
  refine ⟨S0,_,_,R,?_⟩
  have hsrc : srcOf S (tabV tb) = some (tb.map rowV,[]):=rfl
  have hll : (tb.map rowV).length <= 1000000:=by rw [List.length_map,w.len]; omega
  rw [List.append_assoc] at hS0
  unfold lw12 at *
  generalize (tb.map fun r=>Cell.lst (r.map .int)) = cells at *
  generalize ((List.range n).map fun k=>PV.ref (S.length + k)) = refs at *
  generalize tb.map rowV = tv at *
  generalize tabV tb = T at *
  generalize ns.map PV.int = nv at *
  simp -implicitDefEqProofs [hsrc,hll,lim_eq,ht,hcl,hS0]
theorem tup_great {n p q : Nat} (ns : List Int) (d : Int) (b3 : Option PV) (tb : List (List Int)) {t' : List (List Int)} {S : Store} (R : RowsAt n S p q t') (w : Wt' n t') (b5 b6 : Option PV) (me : ME) (hme : me = mCall cTuple (mCons (mVar 0) mNil)) :
    (mCall cTuple (mCons (mVal (mCompN [none] (gaName 0) (mSeq (mVar 7)) mTrue me)) mNil)) (lw12 ns d n b3 tb b5 b6 (some (.ref p))) S = .ok (tabV t') S:=by
  have h8:=w.n8
  have hc:=tup12 R w me hme (lw12 ns d n b3 tb b5 b6 (some (.ref p)))
  have hs3 : srcOf S (.ref p) = some ((List.range n).map (fun k=>PV.ref (q + k)),[(p,(List.range n).map fun k=>PV.ref (q + k))]):=by
    have:=R.l
    simp [this]
  have hrl : ((List.range n).map fun k=>PV.ref (q + k)).length <= 1000000:=by simp; omega
  have hT : PV.tup (t'.map rowV) = tabV t':=rfl
  unfold lw12 at *
  generalize ((List.range n).map fun k=>PV.ref (q + k)) = refs at *
  generalize t'.map rowV = tv at *
  generalize tabV tb = T at *
  generalize ns.map PV.int = nv at *
  simp -implicitDefEqProofs [hs3,hrl,lim_eq,hc,hT,-srcOf_r]
theorem law_true (ns : List Int) : F_law [.fro (ns.map .int)] [] = .ok (.bl true) []:=by
  have d0:=draw_ok ns 0 [] (by decide)
  rw [show ((0 : Nat) : Int) = 0 from rfl] at d0
  generalize drawI ns 0 = d at *
  obtain ⟨n,hn1,hn8,en⟩ : ∃ n : Nat,1 <= n /\ n <= 8 /\ ∀ X : MS,(mSeqS (mSet 1 (mCallF 2 F__law_b_draw (mCons (mVar 0) (mCons (mC (.int 0)) mNil))))
    (mSeqS (mSet 2 (mOp oAdd (mC (.int 1)) (mOp oMod (mVar 1) (mC (.int 4)))))
    (mSeqS (mIfS (toB (mOp oEq (mOp oMod (mOp oDiv (mVar 1) (mC (.int 64))) (mC (.int 6))) (mC (.int 5)))) (mSet 2 (mOp oAdd (mVar 2) (mC (.int 4)))) mNext) X))) [some (.fro (ns.map .int)),none,none,none,none,none,none,none] [] = X [some (.fro (ns.map .int)),some (.int d),some (.int n),none,none,none,none,none] []:=by
    have h5:=emod_lt d (b:=4) (by decide)
    obtain ⟨z,hz⟩ : ∃ z,1 + d % 4 = z:=⟨_,rfl⟩
    generalize ns.map PV.int = nv at *
    by_cases q : d / 64 % 6 = 5
    · obtain ⟨m,hm⟩ : ∃ m : Nat,z + 4 = m:=⟨(z + 4).toNat,by omega⟩
      refine ⟨m,by omega,by omega,fun X=>?_⟩
      simp -implicitDefEqProofs [d0,q,hz,hm]
    · obtain ⟨m,hm⟩ : ∃ m : Nat,z = m:=⟨z.toNat,by omega⟩
      refine ⟨m,by omega,by omega,fun X=>?_⟩
      rw [hm] at hz
      simp -implicitDefEqProofs [d0,q,hz]
  obtain ⟨y,hy,ey⟩ : ∃ y : Nat,y <= 16 /\ 1 + d / 4 % 16 = y:=by
    have:=emod_lt (d / 4) (b:=16) (by decide)
    exact ⟨(1 + d / 4 % 16).toNat,by omega,by omega⟩
  obtain ⟨S1,p1,q1,tb1,R1,w1,ht1,e1⟩:=grown_ok ns hn1 hn8 y (by omega) []
  have d1:=draw_ok ns 1 S1 (by decide)
  rw [show ((1 : Nat) : Int) = 1 from rfl] at d1
  generalize drawI ns 1 = x at *
  obtain ⟨S2,tb,w,ht,e2⟩:=bent_ok R1 w1 (by omega) x
  have s34 : ∀ X : MS,(mSeqS (mSet 3 (mCallF 5 F__law_b_grown (mCons (mVar 0) (mCons (mVar 2) (mCons (mC (.int 2)) (mCons (mOp oAdd (mC (.int 1)) (mOp oMod (mOp oDiv (mVar 1) (mC (.int 4))) (mC (.int 16)))) (mCons (mC (.int 4)) mNil)))))))
    (mSeqS (mSet 4 (mCallF 2 F__law_b_bent (mCons (mVar 3) (mCons (mCallF 2 F__law_b_draw (mCons (mVar 0) (mCons (mC (.int 1)) mNil))) mNil)))) X)) [some (.fro (ns.map .int)),some (.int d),some (.int n),none,none,none,none,none] [] = X (lw12 ns d n (some (.ref p1)) tb none none none) S2:=fun X=>by
    unfold lw12
    generalize ns.map PV.int = nv at *
    generalize tabV tb = T at *
    simp -implicitDefEqProofs [ey,e1,d1,e2]
  obtain ⟨Γ',S3,e3,b5,b6,rfl⟩:=forG_inv (g:=fun k : Nat=>PV.int (k : Int)) (xs:=List.range 2) (ga:=gaName 5) (body:=b_law_1) (w:=[]) (Γ:=lw12 ns d n (some (.ref p1)) tb none none none) (st:=S2)
    (fun _ Γ st'=>∃ b5 b6,Γ = lw12 ns d n (some (.ref p1)) tb b5 b6 none)
    (fun _ _ _ _=>by simp)
    (fun i k Γ st' hx ⟨b5,b6,e1⟩=>by
      subst e1
      obtain ⟨c6,S',e⟩:=turn12 ns d (some (.ref p1)) w (some (.int k)) b6 none st'
      exact ⟨_,rfl,_,S',e,_,_,rfl⟩)
    ⟨_,_,rfl⟩
  rw [<- rangeI0] at e3
  have s5 : mFor (gaName 5) (mRange1 (mCons (mC (.int 2)) mNil)) b_law_1 (lw12 ns d n (some (.ref p1)) tb none none none) S2 = .nx (lw12 ns d n (some (.ref p1)) tb b5 b6 none) S3:=by
    unfold lw12 at *
    generalize ns.map PV.int = nv at *
    generalize tabV tb = T at *
    simp -implicitDefEqProofs [lim_eq,e3]
  obtain ⟨f,ef⟩ : ∃ f,d / 64 % 100000000000000000000 = f:=⟨_,rfl⟩
  have hf0 : 0 <= f:=by rw [<- ef]; exact Int.emod_nonneg _ (by decide)
  have hn0 : 0 < n:=hn1
  obtain ⟨S4,p,q,R4,s7⟩:=great12 ns d (some (.ref p1)) w b5 b6 none S3 e_law_2 rfl
  have c1:=R4.ix hn0
  have c2:=R4.cell w.sz hn0 (Nat.zero_le n)
  have he:=w.ent_nn hn0 (Nat.zero_le n)
  rw [show ((0 : Nat) : Int) = 0 from rfl] at c1 c2
  rw [Nat.add_zero] at c1 c2
  obtain ⟨S5,R5,w5,k5,e5⟩:=put_okE R4 w (x:=ent tb 0 0 + (301 + f)) (by omega) hn0 (Nat.zero_le n) (mVar 7) (mC (.int 0)) (mC (.int 0)) (mOp oAdd (mOp oAdd (mOp oIx (mOp oIx (mVar 7) (mC (.int 0))) (mC (.int 0))) (mC (.int 301))) (mOp oMod (mOp oDiv (mVar 1) (mC (.int 64))) (mOp oPow (mC (.int 10)) (mC (.int 20))))) (lw12 ns d n (some (.ref p1)) tb b5 b6 (some (.ref p))) (by
    unfold lw12
    generalize ent tb 0 0 = z at *
    have : z + 301 + f = z + (301 + f):=by omega
    generalize ns.map PV.int = nv at *
    generalize tabV tb = T at *
    simp -implicitDefEqProofs [c1,c2,ef,this,-oIx_r]) rfl rfl rfl
  have hput5 : tb.set 0 ((tb.getD 0 []).set 0 (ent tb 0 0 + (301 + f))) = putT tb 0 0 (ent tb 0 0 + (301 + f)):=rfl
  rw [hput5] at R5 w5
  have tp5:=tup_great ns d (some (.ref p1)) tb R5 w5 b5 b6 e_law_3 rfl
  have e6:=lcomes12 w S5
  have tt5:=tot_put w.sz hn0 (Nat.zero_le n) (301 + f)
  have tnn : 0 <= totF n tb:=by
    rw [tot_ent w.sz]
    exact upto_nonneg fun g hg=>upto_nonneg fun j hj=>w.ent_nn hg (by omega)
  have s8 : (mIfS (tAndM (toB (mCallF 1 F__law_b_comes (mCons (mVar 4) mNil))) (toB (mOp oNe (mCallF 1 F__law_b_told (mCons (mCall cTuple (mCons (mVal (mCompN [none] (gaName 0) (mSeq (mVar 7)) mTrue e_law_3)) mNil)) mNil)) (mC (.str "many"))))) (mRet (mC (.bl false))) mNext) (lw12 ns d n (some (.ref p1)) tb b5 b6 (some (.ref p))) S5 = .nx (lw12 ns d n (some (.ref p1)) tb b5 b6 (some (.ref p))) S5:=by
    cases hc : comesB n tb with
    | false=>
      rw [hc] at e6
      unfold lw12
      generalize ns.map PV.int = nv at *
      generalize tabV tb = T at *
      simp -implicitDefEqProofs [e6]
    | true=>
      rw [hc] at e6
      have c5:=(ca_of hc).make w hn0 (k:=301 + f) (by omega) w5
      have e7:=told12_many w5 c5 (by omega) S5
      have t : (toB (mOp oNe (mCallF 1 F__law_b_told (mCons (mCall cTuple (mCons (mVal (mCompN [none] (gaName 0) (mSeq (mVar 7)) mTrue e_law_3)) mNil)) mNil)) (mC (.str "many")))) (lw12 ns d n (some (.ref p1)) tb b5 b6 (some (.ref p))) S5 = .ok false S5:=by
        generalize mCall cTuple (mCons (mVal (mCompN [none] (gaName 0) (mSeq (mVar 7)) mTrue e_law_3)) mNil) = M at *
        generalize lw12 ns d n (some (.ref p1)) tb b5 b6 (some (.ref p)) = G at *
        generalize tabV (putT tb 0 0 (ent tb 0 0 + (301 + f))) = T5 at *
        simp -implicitDefEqProofs [tp5,e7]
      have t0 : (toB (mCallF 1 F__law_b_comes (mCons (mVar 4) mNil))) (lw12 ns d n (some (.ref p1)) tb b5 b6 (some (.ref p))) S5 = .ok true S5:=by
        unfold lw12
        generalize ns.map PV.int = nv at *
        generalize tabV tb = T at *
        simp -implicitDefEqProofs [e6]
      generalize (toB (mOp oNe (mCallF 1 F__law_b_told (mCons (mCall cTuple (mCons (mVal (mCompN [none] (gaName 0) (mSeq (mVar 7)) mTrue e_law_3)) mNil)) mNil)) (mC (.str "many")))) = M1 at *
      generalize (toB (mCallF 1 F__law_b_comes (mCons (mVar 4) mNil))) = M0 at *
      generalize lw12 ns d n (some (.ref p1)) tb b5 b6 (some (.ref p)) = G at *
      simp -implicitDefEqProofs [t0,t]
  obtain ⟨S6,p',q',R6,s9⟩:=great12 ns d (some (.ref p1)) w b5 b6 (some (.ref p)) S5 e_law_4 rfl
  have c3:=R6.ix hn0
  have c4:=R6.cell w.sz hn0 (Nat.le_refl n)
  have he2:=w.ent_nn hn0 (Nat.le_refl n)
  rw [show ((0 : Nat) : Int) = 0 from rfl] at c3
  rw [Nat.add_zero] at c3 c4
  obtain ⟨S7,R7,w7,k7,e8⟩:=put_okE R6 w (x:=ent tb 0 n + (400 + f)) (by omega) hn0 (Nat.le_refl n) (mVar 7) (mC (.int 0)) (mVar 2) (mOp oAdd (mOp oAdd (mOp oIx (mOp oIx (mVar 7) (mC (.int 0))) (mVar 2)) (mC (.int 400))) (mOp oMod (mOp oDiv (mVar 1) (mC (.int 64))) (mOp oPow (mC (.int 10)) (mC (.int 20))))) (lw12 ns d n (some (.ref p1)) tb b5 b6 (some (.ref p'))) (by
    unfold lw12
    generalize ent tb 0 n = z at *
    have : z + 400 + f = z + (400 + f):=by omega
    generalize ns.map PV.int = nv at *
    generalize tabV tb = T at *
    simp -implicitDefEqProofs [c3,c4,ef,this,-oIx_r]) rfl rfl rfl
  have hput7 : tb.set 0 ((tb.getD 0 []).set n (ent tb 0 n + (400 + f))) = putT tb 0 n (ent tb 0 n + (400 + f)):=rfl
  rw [hput7] at R7 w7
  have tp7:=tup_great ns d (some (.ref p1)) tb R7 w7 b5 b6 e_law_5 rfl
  have hnc : comesB n (putT tb 0 n (ent tb 0 n + (400 + f))) = false:=by
    cases hc : comesB n (putT tb 0 n (ent tb 0 n + (400 + f))) with
    | false=>rfl
    | true=>
      exfalso
      have:=(ca_of hc).nn 0 hn0
      rw [rights_put w.sz hn0 (Nat.le_refl n) (400 + f) hn0] at this
      have h2:=rights_tot w hn0
      rw [if_neg (by omega),if_pos rfl,if_neg (by omega)] at this
      omega
  have e9:=told12_table w7 hnc S7
  have s10 : mRet (mOp oEq (mCallF 1 F__law_b_told (mCons (mCall cTuple (mCons (mVal (mCompN [none] (gaName 0) (mSeq (mVar 7)) mTrue e_law_5)) mNil)) mNil)) (mC (.str "table"))) (lw12 ns d n (some (.ref p1)) tb b5 b6 (some (.ref p'))) S7 = .rt (.bl true) S7:=by
    generalize mCall cTuple (mCons (mVal (mCompN [none] (gaName 0) (mSeq (mVar 7)) mTrue e_law_5)) mNil) = M at *
    generalize lw12 ns d n (some (.ref p1)) tb b5 b6 (some (.ref p')) = G at *
    generalize tabV (putT tb 0 n (ent tb 0 n + (400 + f))) = T5 at *
    simp -implicitDefEqProofs [tp7,e9]
  have step : m_law [some (.fro (ns.map .int)),none,none,none,none,none,none,none] [] = .rt (.bl true) S7:=by
    unfold m_law
    rw [en,s34,mSeqS_eq,s5]
    show mSeqS _ _ _ _ = _
    rw [mSeqS_eq,s7]
    show mSeqS _ _ _ _ = _
    rw [mSeqS_eq,e5]
    show mSeqS _ _ _ _ = _
    rw [mSeqS_eq,s8]
    show mSeqS _ _ _ _ = _
    rw [mSeqS_eq,s9]
    show mSeqS _ _ _ _ = _
    rw [mSeqS_eq,e8]
    exact s10
  show callF m_law 8 _ [] = _
  unfold callF
  rw [show (([PV.fro (ns.map .int)] : List PV).map some ++ List.replicate (8 - [PV.fro (ns.map .int)].length) none) = [some (.fro (ns.map .int)),none,none,none,none,none,none,none] from rfl,step]
  simp [fin,fz]
theorem law_all : ∀ ns : List Int,ns.length <= 63 -> ∃ st',F_law [.fro (ns.map .int)] [] = .ok (.bl true) st':=fun ns _=>⟨[],law_true ns⟩
end Lw
namespace Lw
open PySem PySem.Spec L2 Sm
theorem all_mk {l : PySem.W.OpenLaw} {w : World} {K : PySem.W.Frag} {h : Heap} {mg : Str -> Option Value} {fa f1 f2 f3 f4 f5 f6 f7 f8 f9 f10 f11 f12 f13 f14 f15 f16 f17 f18 f19 f20 f21 f22 f23 f24 f25 f26 f27 f28 f29 f30 f31 f32 f33 : Addr} (X : K.In h) (G : h.Ns mainGlobals mg) (hfa : mg "law" = some (.ref fa))
    {od1 an1 od2 an2 od3 an3 od4 an4 od5 an5 od6 an6 od7 an7 od8 an8 od9 an9 od10 an10 od11 an11 od12 an12 od13 an13 od14 an14 od15 an15 od16 an16 od17 an17 od18 an18 od19 an19 od20 an20 od21 an21 od22 an22 od23 an23 od24 an24 od25 an25 od26 an26 od27 an27 od28 an28 od29 an29 od30 an30 od31 an31 od32 an32 od33 an33 : Option Addr}
    {sl1 sl2 sl3 sl4 sl5 sl6 sl7 sl8 sl9 sl10 sl11 sl12 sl13 sl14 sl15 sl16 sl17 sl18 sl19 sl20 sl21 sl22 sl23 sl24 sl25 sl26 sl27 sl28 sl29 sl30 sl31 sl32 sl33 : Array (Option Value)}
    {oc1 kV1 dc1 pm1 cd1 ct1 oc2 kV2 dc2 pm2 cd2 ct2 oc3 kV3 dc3 pm3 cd3 ct3 oc4 kV4 dc4 pm4 cd4 ct4 oc5 kV5 dc5 pm5 cd5 ct5 oc6 kV6 dc6 pm6 cd6 ct6 oc7 kV7 dc7 pm7 cd7 ct7 oc8 kV8 dc8 pm8 cd8 ct8 oc9 kV9 dc9 pm9 cd9 ct9 oc10 kV10 dc10 pm10 cd10 ct10 oc11 kV11 dc11 pm11 cd11 ct11 oc12 kV12 dc12 pm12 cd12 ct12 oc13 kV13 dc13 pm13 cd13 ct13 oc14 kV14 dc14 pm14 cd14 ct14 oc15 kV15 dc15 pm15 cd15 ct15 oc16 kV16 dc16 pm16 cd16 ct16 oc17 kV17 dc17 pm17 cd17 ct17 oc18 kV18 dc18 pm18 cd18 ct18 oc19 kV19 dc19 pm19 cd19 ct19 oc20 kV20 dc20 pm20 cd20 ct20 oc21 kV21 dc21 pm21 cd21 ct21 oc22 kV22 dc22 pm22 cd22 ct22 oc23 kV23 dc23 pm23 cd23 ct23 oc24 kV24 dc24 pm24 cd24 ct24 oc25 kV25 dc25 pm25 cd25 ct25 oc26 kV26 dc26 pm26 cd26 ct26 oc27 kV27 dc27 pm27 cd27 ct27 oc28 kV28 dc28 pm28 cd28 ct28 oc29 kV29 dc29 pm29 cd29 ct29 oc30 kV30 dc30 pm30 cd30 ct30 oc31 kV31 dc31 pm31 cd31 ct31 oc32 kV32 dc32 pm32 cd32 ct32 oc33 kV33 dc33 pm33 cd33 ct33 : Value}
    {e_NoHouse e_NoTable e_TooMany : Addr}
    {t_MOST_HOUSES : Tok}
    {t_MOST_STEPS : Tok}
    {ee0 ee1 ee2 ee3 ee4 ee5 ee6 ee7 ee8 ee9 ee10 ee11 ee12 ee13 ee14 : Addr} {cdx1 cdx10 : ClassData}
    (a1 : PySem.W.nsIn K mainGlobals "is_whole" = some (some (.ref f1))) (l1 : K.lookup f1 = some ⟨oc1,od1,.func (PySem.W.fnOf "is_whole" "is_whole" (defArgs s_is_whole) (defBody s_is_whole) (defScope s_is_whole) .none kV1 dc1 pm1 an1 cd1 ct1),sl1⟩) (c1 : PySem.W.codeIn K cd1 "is_whole" = true) (k1 : PySem.W.keepIn K (.ref f1) = true)
    (a2 : PySem.W.nsIn K mainGlobals "is_between" = some (some (.ref f2))) (l2 : K.lookup f2 = some ⟨oc2,od2,.func (PySem.W.fnOf "is_between" "is_between" (defArgs s_is_between) (defBody s_is_between) (defScope s_is_between) .none kV2 dc2 pm2 an2 cd2 ct2),sl2⟩) (c2 : PySem.W.codeIn K cd2 "is_between" = true) (k2 : PySem.W.keepIn K (.ref f2) = true)
    (a3 : PySem.W.nsIn K mainGlobals "is_row" = some (some (.ref f3))) (l3 : K.lookup f3 = some ⟨oc3,od3,.func (PySem.W.fnOf "is_row" "is_row" (defArgs s_is_row) (defBody s_is_row) (defScope s_is_row) .none kV3 dc3 pm3 an3 cd3 ct3),sl3⟩) (c3 : PySem.W.codeIn K cd3 "is_row" = true) (k3 : PySem.W.keepIn K (.ref f3) = true)
    (a4 : PySem.W.nsIn K mainGlobals "is_table" = some (some (.ref f4))) (l4 : K.lookup f4 = some ⟨oc4,od4,.func (PySem.W.fnOf "is_table" "is_table" (defArgs s_is_table) (defBody s_is_table) (defScope s_is_table) .none kV4 dc4 pm4 an4 cd4 ct4),sl4⟩) (c4 : PySem.W.codeIn K cd4 "is_table" = true) (k4 : PySem.W.keepIn K (.ref f4) = true)
    (a5 : PySem.W.nsIn K mainGlobals "is_house" = some (some (.ref f5))) (l5 : K.lookup f5 = some ⟨oc5,od5,.func (PySem.W.fnOf "is_house" "is_house" (defArgs s_is_house) (defBody s_is_house) (defScope s_is_house) .none kV5 dc5 pm5 an5 cd5 ct5),sl5⟩) (c5 : PySem.W.codeIn K cd5 "is_house" = true) (k5 : PySem.W.keepIn K (.ref f5) = true)
    (a6 : PySem.W.nsIn K mainGlobals "rights" = some (some (.ref f6))) (l6 : K.lookup f6 = some ⟨oc6,od6,.func (PySem.W.fnOf "rights" "rights" (defArgs s_rights) (defBody s_rights) (defScope s_rights) .none kV6 dc6 pm6 an6 cd6 ct6),sl6⟩) (c6 : PySem.W.codeIn K cd6 "rights" = true) (k6 : PySem.W.keepIn K (.ref f6) = true)
    (a7 : PySem.W.nsIn K mainGlobals "raised" = some (some (.ref f7))) (l7 : K.lookup f7 = some ⟨oc7,od7,.func (PySem.W.fnOf "raised" "raised" (defArgs s_raised) (defBody s_raised) (defScope s_raised) .none kV7 dc7 pm7 an7 cd7 ct7),sl7⟩) (c7 : PySem.W.codeIn K cd7 "raised" = true) (k7 : PySem.W.keepIn K (.ref f7) = true)
    (a8 : PySem.W.nsIn K mainGlobals "made_some" = some (some (.ref f8))) (l8 : K.lookup f8 = some ⟨oc8,od8,.func (PySem.W.fnOf "made_some" "made_some" (defArgs s_made_some) (defBody s_made_some) (defScope s_made_some) .none kV8 dc8 pm8 an8 cd8 ct8),sl8⟩) (c8 : PySem.W.codeIn K cd8 "made_some" = true) (k8 : PySem.W.keepIn K (.ref f8) = true)
    (a9 : PySem.W.nsIn K mainGlobals "lent_or_used_some" = some (some (.ref f9))) (l9 : K.lookup f9 = some ⟨oc9,od9,.func (PySem.W.fnOf "lent_or_used_some" "lent_or_used_some" (defArgs s_lent_or_used_some) (defBody s_lent_or_used_some) (defScope s_lent_or_used_some) .none kV9 dc9 pm9 an9 cd9 ct9),sl9⟩) (c9 : PySem.W.codeIn K cd9 "lent_or_used_some" = true) (k9 : PySem.W.keepIn K (.ref f9) = true)
    (a10 : PySem.W.nsIn K mainGlobals "was_lent_some" = some (some (.ref f10))) (l10 : K.lookup f10 = some ⟨oc10,od10,.func (PySem.W.fnOf "was_lent_some" "was_lent_some" (defArgs s_was_lent_some) (defBody s_was_lent_some) (defScope s_was_lent_some) .none kV10 dc10 pm10 an10 cd10 ct10),sl10⟩) (c10 : PySem.W.codeIn K cd10 "was_lent_some" = true) (k10 : PySem.W.keepIn K (.ref f10) = true)
    (a11 : PySem.W.nsIn K mainGlobals "has_root" = some (some (.ref f11))) (l11 : K.lookup f11 = some ⟨oc11,od11,.func (PySem.W.fnOf "has_root" "has_root" (defArgs s_has_root) (defBody s_has_root) (defScope s_has_root) .none kV11 dc11 pm11 an11 cd11 ct11),sl11⟩) (c11 : PySem.W.codeIn K cd11 "has_root" = true) (k11 : PySem.W.keepIn K (.ref f11) = true)
    (a12 : PySem.W.nsIn K mainGlobals "rooted_houses" = some (some (.ref f12))) (l12 : K.lookup f12 = some ⟨oc12,od12,.func (PySem.W.fnOf "rooted_houses" "rooted_houses" (defArgs s_rooted_houses) (defBody s_rooted_houses) (defScope s_rooted_houses) .none kV12 dc12 pm12 an12 cd12 ct12),sl12⟩) (c12 : PySem.W.codeIn K cd12 "rooted_houses" = true) (k12 : PySem.W.keepIn K (.ref f12) = true)
    (a13 : PySem.W.nsIn K mainGlobals "rootless_houses" = some (some (.ref f13))) (l13 : K.lookup f13 = some ⟨oc13,od13,.func (PySem.W.fnOf "rootless_houses" "rootless_houses" (defArgs s_rootless_houses) (defBody s_rootless_houses) (defScope s_rootless_houses) .none kV13 dc13 pm13 an13 cd13 ct13),sl13⟩) (c13 : PySem.W.codeIn K cd13 "rootless_houses" = true) (k13 : PySem.W.keepIn K (.ref f13) = true)
    (a14 : PySem.W.nsIn K mainGlobals "comes_about" = some (some (.ref f14))) (l14 : K.lookup f14 = some ⟨oc14,od14,.func (PySem.W.fnOf "comes_about" "comes_about" (defArgs s_comes_about) (defBody s_comes_about) (defScope s_comes_about) .none kV14 dc14 pm14 an14 cd14 ct14),sl14⟩) (c14 : PySem.W.codeIn K cd14 "comes_about" = true) (k14 : PySem.W.keepIn K (.ref f14) = true)
    (a15 : PySem.W.nsIn K mainGlobals "does_come_about" = some (some (.ref f15))) (l15 : K.lookup f15 = some ⟨oc15,od15,.func (PySem.W.fnOf "does_come_about" "does_come_about" (defArgs s_does_come_about) (defBody s_does_come_about) (defScope s_does_come_about) .none kV15 dc15 pm15 an15 cd15 ct15),sl15⟩) (c15 : PySem.W.codeIn K cd15 "does_come_about" = true) (k15 : PySem.W.keepIn K (.ref f15) = true)
    (a16 : PySem.W.nsIn K mainGlobals "need_comes_about" = some (some (.ref f16))) (l16 : K.lookup f16 = some ⟨oc16,od16,.func (PySem.W.fnOf "need_comes_about" "need_comes_about" (defArgs s_need_comes_about) (defBody s_need_comes_about) (defScope s_need_comes_about) .none kV16 dc16 pm16 an16 cd16 ct16),sl16⟩) (c16 : PySem.W.codeIn K cd16 "need_comes_about" = true) (k16 : PySem.W.keepIn K (.ref f16) = true)
    (a17 : PySem.W.nsIn K mainGlobals "open_places" = some (some (.ref f17))) (l17 : K.lookup f17 = some ⟨oc17,od17,.func (PySem.W.fnOf "open_places" "open_places" (defArgs s_open_places) (defBody s_open_places) (defScope s_open_places) .none kV17 dc17 pm17 an17 cd17 ct17),sl17⟩) (c17 : PySem.W.codeIn K cd17 "open_places" = true) (k17 : PySem.W.keepIn K (.ref f17) = true)
    (a18 : PySem.W.nsIn K mainGlobals "rest_behind" = some (some (.ref f18))) (l18 : K.lookup f18 = some ⟨oc18,od18,.func (PySem.W.fnOf "rest_behind" "rest_behind" (defArgs s_rest_behind) (defBody s_rest_behind) (defScope s_rest_behind) .none kV18 dc18 pm18 an18 cd18 ct18),sl18⟩) (c18 : PySem.W.codeIn K cd18 "rest_behind" = true) (k18 : PySem.W.keepIn K (.ref f18) = true)
    (a19 : PySem.W.nsIn K mainGlobals "next_place" = some (some (.ref f19))) (l19 : K.lookup f19 = some ⟨oc19,od19,.func (PySem.W.fnOf "next_place" "next_place" (defArgs s_next_place) (defBody s_next_place) (defScope s_next_place) .none kV19 dc19 pm19 an19 cd19 ct19),sl19⟩) (c19 : PySem.W.codeIn K cd19 "next_place" = true) (k19 : PySem.W.keepIn K (.ref f19) = true)
    (a20 : PySem.W.nsIn K mainGlobals "step_at" = some (some (.ref f20))) (l20 : K.lookup f20 = some ⟨oc20,od20,.func (PySem.W.fnOf "step_at" "step_at" (defArgs s_step_at) (defBody s_step_at) (defScope s_step_at) .none kV20 dc20 pm20 an20 cd20 ct20),sl20⟩) (c20 : PySem.W.codeIn K cd20 "step_at" = true) (k20 : PySem.W.keepIn K (.ref f20) = true)
    (a21 : PySem.W.nsIn K mainGlobals "steps" = some (some (.ref f21))) (l21 : K.lookup f21 = some ⟨oc21,od21,.func (PySem.W.fnOf "steps" "steps" (defArgs s_steps) (defBody s_steps) (defScope s_steps) .none kV21 dc21 pm21 an21 cd21 ct21),sl21⟩) (c21 : PySem.W.codeIn K cd21 "steps" = true) (k21 : PySem.W.keepIn K (.ref f21) = true)
    (a22 : PySem.W.nsIn K mainGlobals "_law_b_draw" = some (some (.ref f22))) (l22 : K.lookup f22 = some ⟨oc22,od22,.func (PySem.W.fnOf "_law_b_draw" "_law_b_draw" (defArgs s__law_b_draw) (defBody s__law_b_draw) (defScope s__law_b_draw) .none kV22 dc22 pm22 an22 cd22 ct22),sl22⟩) (c22 : PySem.W.codeIn K cd22 "_law_b_draw" = true) (k22 : PySem.W.keepIn K (.ref f22) = true)
    (a23 : PySem.W.nsIn K mainGlobals "_law_b_whole" = some (some (.ref f23))) (l23 : K.lookup f23 = some ⟨oc23,od23,.func (PySem.W.fnOf "_law_b_whole" "_law_b_whole" (defArgs s__law_b_whole) (defBody s__law_b_whole) (defScope s__law_b_whole) .none kV23 dc23 pm23 an23 cd23 ct23),sl23⟩) (c23 : PySem.W.codeIn K cd23 "_law_b_whole" = true) (k23 : PySem.W.keepIn K (.ref f23) = true)
    (a24 : PySem.W.nsIn K mainGlobals "_law_b_rights" = some (some (.ref f24))) (l24 : K.lookup f24 = some ⟨oc24,od24,.func (PySem.W.fnOf "_law_b_rights" "_law_b_rights" (defArgs s__law_b_rights) (defBody s__law_b_rights) (defScope s__law_b_rights) .none kV24 dc24 pm24 an24 cd24 ct24),sl24⟩) (c24 : PySem.W.codeIn K cd24 "_law_b_rights" = true) (k24 : PySem.W.keepIn K (.ref f24) = true)
    (a25 : PySem.W.nsIn K mainGlobals "_law_b_busy" = some (some (.ref f25))) (l25 : K.lookup f25 = some ⟨oc25,od25,.func (PySem.W.fnOf "_law_b_busy" "_law_b_busy" (defArgs s__law_b_busy) (defBody s__law_b_busy) (defScope s__law_b_busy) .none kV25 dc25 pm25 an25 cd25 ct25),sl25⟩) (c25 : PySem.W.codeIn K cd25 "_law_b_busy" = true) (k25 : PySem.W.keepIn K (.ref f25) = true)
    (a26 : PySem.W.nsIn K mainGlobals "_law_b_known" = some (some (.ref f26))) (l26 : K.lookup f26 = some ⟨oc26,od26,.func (PySem.W.fnOf "_law_b_known" "_law_b_known" (defArgs s__law_b_known) (defBody s__law_b_known) (defScope s__law_b_known) .none kV26 dc26 pm26 an26 cd26 ct26),sl26⟩) (c26 : PySem.W.codeIn K cd26 "_law_b_known" = true) (k26 : PySem.W.keepIn K (.ref f26) = true)
    (a27 : PySem.W.nsIn K mainGlobals "_law_b_grown" = some (some (.ref f27))) (l27 : K.lookup f27 = some ⟨oc27,od27,.func (PySem.W.fnOf "_law_b_grown" "_law_b_grown" (defArgs s__law_b_grown) (defBody s__law_b_grown) (defScope s__law_b_grown) .none kV27 dc27 pm27 an27 cd27 ct27),sl27⟩) (c27 : PySem.W.codeIn K cd27 "_law_b_grown" = true) (k27 : PySem.W.keepIn K (.ref f27) = true)
    (a28 : PySem.W.nsIn K mainGlobals "_law_b_told" = some (some (.ref f28))) (l28 : K.lookup f28 = some ⟨oc28,od28,.func (PySem.W.fnOf "_law_b_told" "_law_b_told" (defArgs s__law_b_told) (defBody s__law_b_told) (defScope s__law_b_told) .none kV28 dc28 pm28 an28 cd28 ct28),sl28⟩) (c28 : PySem.W.codeIn K cd28 "_law_b_told" = true) (k28 : PySem.W.keepIn K (.ref f28) = true)
    (a29 : PySem.W.nsIn K mainGlobals "_law_b_is_step" = some (some (.ref f29))) (l29 : K.lookup f29 = some ⟨oc29,od29,.func (PySem.W.fnOf "_law_b_is_step" "_law_b_is_step" (defArgs s__law_b_is_step) (defBody s__law_b_is_step) (defScope s__law_b_is_step) .none kV29 dc29 pm29 an29 cd29 ct29),sl29⟩) (c29 : PySem.W.codeIn K cd29 "_law_b_is_step" = true) (k29 : PySem.W.keepIn K (.ref f29) = true)
    (a30 : PySem.W.nsIn K mainGlobals "_law_b_lead" = some (some (.ref f30))) (l30 : K.lookup f30 = some ⟨oc30,od30,.func (PySem.W.fnOf "_law_b_lead" "_law_b_lead" (defArgs s__law_b_lead) (defBody s__law_b_lead) (defScope s__law_b_lead) .none kV30 dc30 pm30 an30 cd30 ct30),sl30⟩) (c30 : PySem.W.codeIn K cd30 "_law_b_lead" = true) (k30 : PySem.W.keepIn K (.ref f30) = true)
    (a31 : PySem.W.nsIn K mainGlobals "_law_b_comes" = some (some (.ref f31))) (l31 : K.lookup f31 = some ⟨oc31,od31,.func (PySem.W.fnOf "_law_b_comes" "_law_b_comes" (defArgs s__law_b_comes) (defBody s__law_b_comes) (defScope s__law_b_comes) .none kV31 dc31 pm31 an31 cd31 ct31),sl31⟩) (c31 : PySem.W.codeIn K cd31 "_law_b_comes" = true) (k31 : PySem.W.keepIn K (.ref f31) = true)
    (a32 : PySem.W.nsIn K mainGlobals "_law_b_bent" = some (some (.ref f32))) (l32 : K.lookup f32 = some ⟨oc32,od32,.func (PySem.W.fnOf "_law_b_bent" "_law_b_bent" (defArgs s__law_b_bent) (defBody s__law_b_bent) (defScope s__law_b_bent) .none kV32 dc32 pm32 an32 cd32 ct32),sl32⟩) (c32 : PySem.W.codeIn K cd32 "_law_b_bent" = true) (k32 : PySem.W.keepIn K (.ref f32) = true)
    (a33 : PySem.W.nsIn K mainGlobals "law" = some (some (.ref f33))) (l33 : K.lookup f33 = some ⟨oc33,od33,.func (PySem.W.fnOf "law" "law" (defArgs s_law) (defBody s_law) (defScope s_law) .none kV33 dc33 pm33 an33 cd33 ct33),sl33⟩) (c33 : PySem.W.codeIn K cd33 "law" = true) (k33 : PySem.W.keepIn K (.ref f33) = true)
    (z_all : PySem.W.nsIn K mainGlobals "all" = some none)
    (z_any : PySem.W.nsIn K mainGlobals "any" = some none)
    (z_bool : PySem.W.nsIn K mainGlobals "bool" = some none)
    (z_enumerate : PySem.W.nsIn K mainGlobals "enumerate" = some none)
    (z_int : PySem.W.nsIn K mainGlobals "int" = some none)
    (z_isinstance : PySem.W.nsIn K mainGlobals "isinstance" = some none)
    (z_len : PySem.W.nsIn K mainGlobals "len" = some none)
    (z_list : PySem.W.nsIn K mainGlobals "list" = some none)
    (z_max : PySem.W.nsIn K mainGlobals "max" = some none)
    (z_min : PySem.W.nsIn K mainGlobals "min" = some none)
    (z_range : PySem.W.nsIn K mainGlobals "range" = some none)
    (z_sum : PySem.W.nsIn K mainGlobals "sum" = some none)
    (z_tuple : PySem.W.nsIn K mainGlobals "tuple" = some none)
    (v_MOST_HOUSES : PySem.W.nsIn K mainGlobals "MOST_HOUSES" = some (some (.int 8 t_MOST_HOUSES)))
    (v_MOST_STEPS : PySem.W.nsIn K mainGlobals "MOST_STEPS" = some (some (.int 300 t_MOST_STEPS)))
    (n_NoHouse : PySem.W.nsIn K mainGlobals "NoHouse" = some (some (.ref e_NoHouse))) (x_NoHouse : PySem.W.excIn K e_NoHouse bmVE "ValueError.__new__" = true)
    (n_NoTable : PySem.W.nsIn K mainGlobals "NoTable" = some (some (.ref e_NoTable))) (x_NoTable : PySem.W.excIn K e_NoTable bmVE "ValueError.__new__" = true)
    (n_TooMany : PySem.W.nsIn K mainGlobals "TooMany" = some (some (.ref e_TooMany))) (x_TooMany : PySem.W.excIn K e_TooMany bmVE "ValueError.__new__" = true)
    (nn0 : PySem.W.nsIn K mainGlobals "WharfError" = some (some (.ref ee0)))
    (nn1 : PySem.W.nsIn K mainGlobals "NoTable" = some (some (.ref ee1)))
    (nn2 : PySem.W.nsIn K mainGlobals "NoHouse" = some (some (.ref ee2)))
    (nn3 : PySem.W.nsIn K mainGlobals "NoDeed" = some (some (.ref ee3)))
    (nn4 : PySem.W.nsIn K mainGlobals "NoLetter" = some (some (.ref ee4)))
    (nn5 : PySem.W.nsIn K mainGlobals "NoStand" = some (some (.ref ee5)))
    (nn6 : PySem.W.nsIn K mainGlobals "NoRoad" = some (some (.ref ee6)))
    (nn7 : PySem.W.nsIn K mainGlobals "NoPlan" = some (some (.ref ee7)))
    (nn8 : PySem.W.nsIn K mainGlobals "NoBook" = some (some (.ref ee8)))
    (nn9 : PySem.W.nsIn K mainGlobals "NoManner" = some (some (.ref ee9)))
    (nn10 : PySem.W.nsIn K mainGlobals "TooMany" = some (some (.ref ee10)))
    (nn11 : PySem.W.nsIn K mainGlobals "NoText" = some (some (.ref ee11)))
    (nn12 : PySem.W.nsIn K mainGlobals "NoRow" = some (some (.ref ee12)))
    (nn13 : PySem.W.nsIn K mainGlobals "NoName" = some (some (.ref ee13)))
    (nn14 : PySem.W.nsIn K mainGlobals "Short" = some (some (.ref ee14)))
    (nzValueError : PySem.W.nsIn K mainGlobals "ValueError" = some none)
    (nzany : PySem.W.nsIn K mainGlobals "any" = some none)
    (nzisinstance : PySem.W.nsIn K mainGlobals "isinstance" = some none)
    (xgs : PySem.W.specialIn K (.builtin "object.__class__") "__get__" = some (some (.builtin "getset_descriptor.__get__")))
    (xtk : PySem.W.takesIn K (.builtin "object.__class__") = some true)
    (xcls1 : PySem.W.clsIn K ee1 = some cdx1)
    (xga1 : PySem.W.findIn K (.ref ee1) "__getattribute__" = some (some (.builtin "BaseException.__getattribute__")))
    (xgt1 : PySem.W.findIn K (.ref ee1) "__getattr__" = some none)
    (xcl1 : PySem.W.findIn K (.ref ee1) "__class__" = some (some (.builtin "object.__class__")))
    (xob1 : PySem.W.mroIn K ee1 (.type "object") = some true)
    (xbe1 : PySem.W.mroIn K ee1 (.type "BaseException") = some true)
    (xve1 : PySem.W.kitOne K (.ref ee1) (.type "ValueError") = some true)
    (xex1 : PySem.W.exmOne K (.ref ee1) (.ref ee0) = some true)
    (xk1_1 : PySem.W.kitOne K (.ref ee1) (.ref ee1) = some true)
    (xk1_2 : PySem.W.kitOne K (.ref ee1) (.ref ee2) = some false)
    (xk1_3 : PySem.W.kitOne K (.ref ee1) (.ref ee3) = some false)
    (xk1_4 : PySem.W.kitOne K (.ref ee1) (.ref ee4) = some false)
    (xk1_5 : PySem.W.kitOne K (.ref ee1) (.ref ee5) = some false)
    (xk1_6 : PySem.W.kitOne K (.ref ee1) (.ref ee6) = some false)
    (xk1_7 : PySem.W.kitOne K (.ref ee1) (.ref ee7) = some false)
    (xk1_8 : PySem.W.kitOne K (.ref ee1) (.ref ee8) = some false)
    (xk1_9 : PySem.W.kitOne K (.ref ee1) (.ref ee9) = some false)
    (xk1_10 : PySem.W.kitOne K (.ref ee1) (.ref ee10) = some false)
    (xk1_11 : PySem.W.kitOne K (.ref ee1) (.ref ee11) = some false)
    (xk1_12 : PySem.W.kitOne K (.ref ee1) (.ref ee12) = some false)
    (xk1_13 : PySem.W.kitOne K (.ref ee1) (.ref ee13) = some false)
    (xk1_14 : PySem.W.kitOne K (.ref ee1) (.ref ee14) = some false)
    (xcls10 : PySem.W.clsIn K ee10 = some cdx10)
    (xga10 : PySem.W.findIn K (.ref ee10) "__getattribute__" = some (some (.builtin "BaseException.__getattribute__")))
    (xgt10 : PySem.W.findIn K (.ref ee10) "__getattr__" = some none)
    (xcl10 : PySem.W.findIn K (.ref ee10) "__class__" = some (some (.builtin "object.__class__")))
    (xob10 : PySem.W.mroIn K ee10 (.type "object") = some true)
    (xbe10 : PySem.W.mroIn K ee10 (.type "BaseException") = some true)
    (xve10 : PySem.W.kitOne K (.ref ee10) (.type "ValueError") = some true)
    (xex10 : PySem.W.exmOne K (.ref ee10) (.ref ee0) = some true)
    (xk10_1 : PySem.W.kitOne K (.ref ee10) (.ref ee1) = some false)
    (xk10_2 : PySem.W.kitOne K (.ref ee10) (.ref ee2) = some false)
    (xk10_3 : PySem.W.kitOne K (.ref ee10) (.ref ee3) = some false)
    (xk10_4 : PySem.W.kitOne K (.ref ee10) (.ref ee4) = some false)
    (xk10_5 : PySem.W.kitOne K (.ref ee10) (.ref ee5) = some false)
    (xk10_6 : PySem.W.kitOne K (.ref ee10) (.ref ee6) = some false)
    (xk10_7 : PySem.W.kitOne K (.ref ee10) (.ref ee7) = some false)
    (xk10_8 : PySem.W.kitOne K (.ref ee10) (.ref ee8) = some false)
    (xk10_9 : PySem.W.kitOne K (.ref ee10) (.ref ee9) = some false)
    (xk10_10 : PySem.W.kitOne K (.ref ee10) (.ref ee10) = some true)
    (xk10_11 : PySem.W.kitOne K (.ref ee10) (.ref ee11) = some false)
    (xk10_12 : PySem.W.kitOne K (.ref ee10) (.ref ee12) = some false)
    (xk10_13 : PySem.W.kitOne K (.ref ee10) (.ref ee13) = some false)
    (xk10_14 : PySem.W.kitOne K (.ref ee10) (.ref ee14) = some false)
    (hL : noL K = true) :
    ∃ fd : FuncData,(∀ (s : Shared) (v : Value),BindsTo s fd ⟨[v],[]⟩ [("script",v)]) /\ ∀ base : Heap,K.In base -> base.Ns mainGlobals mg -> FnOk l.prog w K mg base (CXD l.prog w) 10 fa fd ["script"] (spLawS K):=by
  have e:=hfa.symm.trans (PySem.W.mg_of X G a33)
  cases e
  have T : Txt mg:=⟨PySem.W.mg_none_of X G z_all,PySem.W.mg_none_of X G z_any,PySem.W.mg_none_of X G z_bool,PySem.W.mg_none_of X G z_enumerate,PySem.W.mg_none_of X G z_int,PySem.W.mg_none_of X G z_isinstance,PySem.W.mg_none_of X G z_len,PySem.W.mg_none_of X G z_list,PySem.W.mg_none_of X G z_max,PySem.W.mg_none_of X G z_min,PySem.W.mg_none_of X G z_range,PySem.W.mg_none_of X G z_sum,PySem.W.mg_none_of X G z_tuple,⟨_,PySem.W.mg_of X G v_MOST_HOUSES⟩,⟨_,PySem.W.mg_of X G v_MOST_STEPS⟩⟩
  have C_NoHouse : ∃ C,mg "NoHouse" = some (.ref C) /\ PySem.W.excIn K C bmVE "ValueError.__new__" = true:=⟨_,PySem.W.mg_of X G n_NoHouse,x_NoHouse⟩
  have C_NoTable : ∃ C,mg "NoTable" = some (.ref C) /\ PySem.W.excIn K C bmVE "ValueError.__new__" = true:=⟨_,PySem.W.mg_of X G n_NoTable,x_NoTable⟩
  have C_TooMany : ∃ C,mg "TooMany" = some (.ref C) /\ PySem.W.excIn K C bmVE "ValueError.__new__" = true:=⟨_,PySem.W.mg_of X G n_TooMany,x_TooMany⟩
  have Nm : Nms mg (fun i=>[ee0,ee1,ee2,ee3,ee4,ee5,ee6,ee7,ee8,ee9,ee10,ee11,ee12,ee13,ee14].getD i 0):=⟨PySem.W.mg_of X G nn0,PySem.W.mg_of X G nn1,PySem.W.mg_of X G nn2,PySem.W.mg_of X G nn3,PySem.W.mg_of X G nn4,PySem.W.mg_of X G nn5,PySem.W.mg_of X G nn6,PySem.W.mg_of X G nn7,PySem.W.mg_of X G nn8,PySem.W.mg_of X G nn9,PySem.W.mg_of X G nn10,PySem.W.mg_of X G nn11,PySem.W.mg_of X G nn12,PySem.W.mg_of X G nn13,PySem.W.mg_of X G nn14,PySem.W.mg_none_of X G nzValueError,PySem.W.mg_none_of X G nzany,PySem.W.mg_none_of X G nzisinstance⟩
  have XC1 : XCls K ee1:=⟨show (PySem.W.clsIn K ee1).isSome = true by rw [xcls1]; rfl,xga1,xgt1,xcl1,xgs,xtk,xob1,xbe1⟩
  have T1 : TgtS K (fun i=>[ee0,ee1,ee2,ee3,ee4,ee5,ee6,ee7,ee8,ee9,ee10,ee11,ee12,ee13,ee14].getD i 0) 1:=⟨XC1,xve1,xex1,fun i h1 h2=>match i,h1,h2 with | 0,h,_=>absurd h (by omega) | 1,_,_=>xk1_1 | 2,_,_=>xk1_2 | 3,_,_=>xk1_3 | 4,_,_=>xk1_4 | 5,_,_=>xk1_5 | 6,_,_=>xk1_6 | 7,_,_=>xk1_7 | 8,_,_=>xk1_8 | 9,_,_=>xk1_9 | 10,_,_=>xk1_10 | 11,_,_=>xk1_11 | 12,_,_=>xk1_12 | 13,_,_=>xk1_13 | 14,_,_=>xk1_14 | _ + 15,_,h=>absurd h (by omega)⟩
  have XC10 : XCls K ee10:=⟨show (PySem.W.clsIn K ee10).isSome = true by rw [xcls10]; rfl,xga10,xgt10,xcl10,xgs,xtk,xob10,xbe10⟩
  have T10 : TgtS K (fun i=>[ee0,ee1,ee2,ee3,ee4,ee5,ee6,ee7,ee8,ee9,ee10,ee11,ee12,ee13,ee14].getD i 0) 10:=⟨XC10,xve10,xex10,fun i h1 h2=>match i,h1,h2 with | 0,h,_=>absurd h (by omega) | 1,_,_=>xk10_1 | 2,_,_=>xk10_2 | 3,_,_=>xk10_3 | 4,_,_=>xk10_4 | 5,_,_=>xk10_5 | 6,_,_=>xk10_6 | 7,_,_=>xk10_7 | 8,_,_=>xk10_8 | 9,_,_=>xk10_9 | 10,_,_=>xk10_10 | 11,_,_=>xk10_11 | 12,_,_=>xk10_12 | 13,_,_=>xk10_13 | 14,_,_=>xk10_14 | _ + 15,_,h=>absurd h (by omega)⟩
  have A1:=atS_mk (st:=s_is_whole) (ps:=["thing"]) X G a1 l1 c1 k1 fun _ _ _ _ _ _ us hl=>match us,hl with | [_],_=>rfl
  have A2:=atS_mk (st:=s_is_between) (ps:=["thing", "least", "most"]) X G a2 l2 c2 k2 fun _ _ _ _ _ _ us hl=>match us,hl with | [_,_,_],_=>rfl
  have A3:=atS_mk (st:=s_is_row) (ps:=["thing", "n"]) X G a3 l3 c3 k3 fun _ _ _ _ _ _ us hl=>match us,hl with | [_,_],_=>rfl
  have A4:=atS_mk (st:=s_is_table) (ps:=["thing"]) X G a4 l4 c4 k4 fun _ _ _ _ _ _ us hl=>match us,hl with | [_],_=>rfl
  have A5:=atS_mk (st:=s_is_house) (ps:=["table", "thing"]) X G a5 l5 c5 k5 fun _ _ _ _ _ _ us hl=>match us,hl with | [_,_],_=>rfl
  have A6:=atS_mk (st:=s_rights) (ps:=["table", "house"]) X G a6 l6 c6 k6 fun _ _ _ _ _ _ us hl=>match us,hl with | [_,_],_=>rfl
  have A7:=atS_mk (st:=s_raised) (ps:=["table", "house", "place", "k"]) X G a7 l7 c7 k7 fun _ _ _ _ _ _ us hl=>match us,hl with | [_,_,_,_],_=>rfl
  have A8:=atS_mk (st:=s_made_some) (ps:=["table", "house"]) X G a8 l8 c8 k8 fun _ _ _ _ _ _ us hl=>match us,hl with | [_,_],_=>rfl
  have A9:=atS_mk (st:=s_lent_or_used_some) (ps:=["table", "house"]) X G a9 l9 c9 k9 fun _ _ _ _ _ _ us hl=>match us,hl with | [_,_],_=>rfl
  have A10:=atS_mk (st:=s_was_lent_some) (ps:=["table", "house", "lenders"]) X G a10 l10 c10 k10 fun _ _ _ _ _ _ us hl=>match us,hl with | [_,_,_],_=>rfl
  have A11:=atS_mk (st:=s_has_root) (ps:=["table", "house", "ahead"]) X G a11 l11 c11 k11 fun _ _ _ _ _ _ us hl=>match us,hl with | [_,_,_],_=>rfl
  have A12:=atS_mk (st:=s_rooted_houses) (ps:=["table"]) X G a12 l12 c12 k12 fun _ _ _ _ _ _ us hl=>match us,hl with | [_],_=>rfl
  have A13:=atS_mk (st:=s_rootless_houses) (ps:=["table"]) X G a13 l13 c13 k13 fun _ _ _ _ _ _ us hl=>match us,hl with | [_],_=>rfl
  have A14:=atS_mk (st:=s_comes_about) (ps:=["table"]) X G a14 l14 c14 k14 fun _ _ _ _ _ _ us hl=>match us,hl with | [_],_=>rfl
  have A15:=atS_mk (st:=s_does_come_about) (ps:=["thing"]) X G a15 l15 c15 k15 fun _ _ _ _ _ _ us hl=>match us,hl with | [_],_=>rfl
  have A16:=atS_mk (st:=s_need_comes_about) (ps:=["thing"]) X G a16 l16 c16 k16 fun _ _ _ _ _ _ us hl=>match us,hl with | [_],_=>rfl
  have A17:=atS_mk (st:=s_open_places) (ps:=["rest"]) X G a17 l17 c17 k17 fun _ _ _ _ _ _ us hl=>match us,hl with | [_],_=>rfl
  have A18:=atS_mk (st:=s_rest_behind) (ps:=["rest", "house", "place"]) X G a18 l18 c18 k18 fun _ _ _ _ _ _ us hl=>match us,hl with | [_,_,_],_=>rfl
  have A19:=atS_mk (st:=s_next_place) (ps:=["rest"]) X G a19 l19 c19 k19 fun _ _ _ _ _ _ us hl=>match us,hl with | [_],_=>rfl
  have A20:=atS_mk (st:=s_step_at) (ps:=["rest", "house", "place"]) X G a20 l20 c20 k20 fun _ _ _ _ _ _ us hl=>match us,hl with | [_,_,_],_=>rfl
  have A21:=atS_mk (st:=s_steps) (ps:=["table"]) X G a21 l21 c21 k21 fun _ _ _ _ _ _ us hl=>match us,hl with | [_],_=>rfl
  have A22:=atS_mk (st:=s__law_b_draw) (ps:=["script", "k"]) X G a22 l22 c22 k22 fun _ _ _ _ _ _ us hl=>match us,hl with | [_,_],_=>rfl
  have A23:=atS_mk (st:=s__law_b_whole) (ps:=["thing"]) X G a23 l23 c23 k23 fun _ _ _ _ _ _ us hl=>match us,hl with | [_],_=>rfl
  have A24:=atS_mk (st:=s__law_b_rights) (ps:=["table", "house"]) X G a24 l24 c24 k24 fun _ _ _ _ _ _ us hl=>match us,hl with | [_,_],_=>rfl
  have A25:=atS_mk (st:=s__law_b_busy) (ps:=["table", "house"]) X G a25 l25 c25 k25 fun _ _ _ _ _ _ us hl=>match us,hl with | [_,_],_=>rfl
  have A26:=atS_mk (st:=s__law_b_known) (ps:=["table"]) X G a26 l26 c26 k26 fun _ _ _ _ _ _ us hl=>match us,hl with | [_],_=>rfl
  have A27:=atS_mk (st:=s__law_b_grown) (ps:=["script", "n", "at", "many", "most"]) X G a27 l27 c27 k27 fun _ _ _ _ _ _ us hl=>match us,hl with | [_,_,_,_,_],_=>rfl
  have A28:=atS_mk (st:=s__law_b_told) (ps:=["table"]) X G a28 l28 c28 k28 fun _ _ _ _ _ _ us hl=>match us,hl with | [_],_=>rfl
  have A29:=atS_mk (st:=s__law_b_is_step) (ps:=["deed", "n"]) X G a29 l29 c29 k29 fun _ _ _ _ _ _ us hl=>match us,hl with | [_,_],_=>rfl
  have A30:=atS_mk (st:=s__law_b_lead) (ps:=["table", "deeds"]) X G a30 l30 c30 k30 fun _ _ _ _ _ _ us hl=>match us,hl with | [_,_],_=>rfl
  have A31:=atS_mk (st:=s__law_b_comes) (ps:=["table"]) X G a31 l31 c31 k31 fun _ _ _ _ _ _ us hl=>match us,hl with | [_],_=>rfl
  have A32:=atS_mk (st:=s__law_b_bent) (ps:=["rows", "draw"]) X G a32 l32 c32 k32 fun _ _ _ _ _ _ us hl=>match us,hl with | [_,_],_=>rfl
  have A33:=atS_mk (st:=s_law) (ps:=["script"]) X G a33 l33 c33 k33 fun _ _ _ _ _ _ us hl=>match us,hl with | [_],_=>rfl
  refine ⟨PySem.W.fnOf "law" "law" (defArgs s_law) (defBody s_law) (defScope s_law) .none kV33 dc33 pm33 an33 cd33 ct33,fun s v=>.of_eq rfl,fun base kb nb=>?_⟩
  have D_is_whole:=A1.def (P:=l.prog) (w:=w) (base:=base) rfl (ok_is_whole A1.F T   )
  have D_is_between:=A2.def (P:=l.prog) (w:=w) (base:=base) rfl (ok_is_between A2.F T   D_is_whole)
  have D_is_row:=A3.def (P:=l.prog) (w:=w) (base:=base) rfl (ok_is_row A3.F T   D_is_whole)
  have D_is_table:=A4.def (P:=l.prog) (w:=w) (base:=base) rfl (ok_is_table A4.F T   D_is_row)
  have D_is_house:=A5.def (P:=l.prog) (w:=w) (base:=base) rfl (ok_is_house A5.F T   D_is_between)
  have D_rights:=A6.def (P:=l.prog) (w:=w) (base:=base) rfl (ok_rights A6.F T  C_NoHouse D_is_house)
  have D_raised:=A7.def (P:=l.prog) (w:=w) (base:=base) rfl (ok_raised A7.F T   )
  have D_made_some:=A8.def (P:=l.prog) (w:=w) (base:=base) rfl (ok_made_some A8.F T   )
  have D_lent_or_used_some:=A9.def (P:=l.prog) (w:=w) (base:=base) rfl (ok_lent_or_used_some A9.F T   )
  have D_was_lent_some:=A10.def (P:=l.prog) (w:=w) (base:=base) rfl (ok_was_lent_some A10.F T   )
  have D_has_root:=A11.def (P:=l.prog) (w:=w) (base:=base) rfl (ok_has_root A11.F T   D_made_some D_was_lent_some)
  have D_rooted_houses:=A12.def (P:=l.prog) (w:=w) (base:=base) rfl (ok_rooted_houses A12.F T   D_has_root)
  have D_rootless_houses:=A13.def (P:=l.prog) (w:=w) (base:=base) rfl (ok_rootless_houses A13.F T   D_rooted_houses D_lent_or_used_some)
  have D_comes_about:=A14.def (P:=l.prog) (w:=w) (base:=base) rfl (ok_comes_about A14.F T   D_rights D_rootless_houses D_rooted_houses)
  have D_does_come_about:=A15.def (P:=l.prog) (w:=w) (base:=base) rfl (ok_does_come_about A15.F T   D_is_table D_comes_about)
  have D_need_comes_about:=A16.def (P:=l.prog) (w:=w) (base:=base) rfl (ok_need_comes_about A16.F T  C_NoTable D_does_come_about)
  have D_open_places:=A17.def (P:=l.prog) (w:=w) (base:=base) rfl (ok_open_places A17.F T   D_made_some)
  have D_rest_behind:=A18.def (P:=l.prog) (w:=w) (base:=base) rfl (ok_rest_behind A18.F T   D_raised)
  have D_next_place:=A19.def (P:=l.prog) (w:=w) (base:=base) rfl (ok_next_place A19.F T   D_open_places D_rootless_houses D_rest_behind)
  have D_step_at:=A20.def (P:=l.prog) (w:=w) (base:=base) rfl (ok_step_at A20.F T   )
  have D_steps:=A21.def (P:=l.prog) (w:=w) (base:=base) rfl (ok_steps A21.F T  C_TooMany D_need_comes_about D_next_place D_step_at D_rest_behind)
  have D__law_b_draw:=A22.def (P:=l.prog) (w:=w) (base:=base) rfl (ok__law_b_draw A22.F T   )
  have D__law_b_whole:=A23.def (P:=l.prog) (w:=w) (base:=base) rfl (ok__law_b_whole A23.F T   )
  have D__law_b_rights:=A24.def (P:=l.prog) (w:=w) (base:=base) rfl (ok__law_b_rights A24.F T   )
  have D__law_b_busy:=A25.def (P:=l.prog) (w:=w) (base:=base) rfl (ok__law_b_busy A25.F T   )
  have D__law_b_known:=A26.def (P:=l.prog) (w:=w) (base:=base) rfl (ok__law_b_known A26.F T   )
  have D__law_b_grown:=A27.def (P:=l.prog) (w:=w) (base:=base) rfl (ok__law_b_grown A27.F T   D__law_b_draw D__law_b_rights)
  have D__law_b_told:=A28.def (P:=l.prog) (w:=w) (base:=base) rfl (ok__law_b_told A28.F T Nm T1 T10  D_steps)
  have D__law_b_is_step:=A29.def (P:=l.prog) (w:=w) (base:=base) rfl (ok__law_b_is_step A29.F T   D__law_b_whole)
  have D__law_b_lead:=A30.def (P:=l.prog) (w:=w) (base:=base) rfl (ok__law_b_lead A30.F T   D__law_b_is_step)
  have D__law_b_comes:=A31.def (P:=l.prog) (w:=w) (base:=base) rfl (ok__law_b_comes A31.F T   D__law_b_known D__law_b_rights D__law_b_busy)
  have D__law_b_bent:=A32.def (P:=l.prog) (w:=w) (base:=base) rfl (ok__law_b_bent A32.F T   )
  exact law_imp hL (ok_law A33.F T   D__law_b_draw D__law_b_grown D__law_b_bent D__law_b_told D__law_b_comes D__law_b_lead) law_all
end Lw
theorem PySem.W.Fast.tw1612735064953821049 : True := trivial
theorem PySem.W.Fast.tw14966858958650067598 : True := trivial
theorem PySem.W.Fast.tw2661677311745335033 : True := trivial
theorem PySem.W.Fast.tw1800547061969993258 : True := trivial
theorem PySem.W.Fast.tw8237499094275435749 : True := trivial
theorem PySem.W.Fast.tw5485359748930244426 : True := trivial
theorem PySem.W.Fast.tw5157650676802476803 : True := trivial
theorem PySem.W.Fast.tw18398378341435675778 : True := trivial
theorem PySem.W.Fast.tw6557972202750012720 : True := trivial
theorem PySem.W.Fast.te6719758848183145615 : True := trivial
open PySem PySem.W PyProof.Rows
set_option maxRecDepth 100000 in
set_option maxHeartbeats 0 in
theorem PySem.Challenge.cw_lendwharf_k12_steps_holds : PySem.Challenge.rw_lendwharf_k12_steps.Holds := by
  w_on; o_law; k_head; (case hw=>w_witness2)
  k_fill
  refine Sm.walkS (l:=PySem.Challenge.rw_lendwharf_k12_steps) (k:=10) rfl ⟨rfl,by decide,by decide⟩ rfl (fun w h Y=>PySem.W.kIn_of Y) ?F
  case F=>
    intro w mg fa h KX G hmg
    refine' Lw.all_mk KX G hmg ?a1 ?l1 ?c1 ?k1 ?a2 ?l2 ?c2 ?k2 ?a3 ?l3 ?c3 ?k3 ?a4 ?l4 ?c4 ?k4 ?a5 ?l5 ?c5 ?k5 ?a6 ?l6 ?c6 ?k6 ?a7 ?l7 ?c7 ?k7 ?a8 ?l8 ?c8 ?k8 ?a9 ?l9 ?c9 ?k9 ?a10 ?l10 ?c10 ?k10 ?a11 ?l11 ?c11 ?k11 ?a12 ?l12 ?c12 ?k12 ?a13 ?l13 ?c13 ?k13 ?a14 ?l14 ?c14 ?k14 ?a15 ?l15 ?c15 ?k15 ?a16 ?l16 ?c16 ?k16 ?a17 ?l17 ?c17 ?k17 ?a18 ?l18 ?c18 ?k18 ?a19 ?l19 ?c19 ?k19 ?a20 ?l20 ?c20 ?k20 ?a21 ?l21 ?c21 ?k21 ?a22 ?l22 ?c22 ?k22 ?a23 ?l23 ?c23 ?k23 ?a24 ?l24 ?c24 ?k24 ?a25 ?l25 ?c25 ?k25 ?a26 ?l26 ?c26 ?k26 ?a27 ?l27 ?c27 ?k27 ?a28 ?l28 ?c28 ?k28 ?a29 ?l29 ?c29 ?k29 ?a30 ?l30 ?c30 ?k30 ?a31 ?l31 ?c31 ?k31 ?a32 ?l32 ?c32 ?k32 ?a33 ?l33 ?c33 ?k33 ?z_all ?z_any ?z_bool ?z_enumerate ?z_int ?z_isinstance ?z_len ?z_list ?z_max ?z_min ?z_range ?z_sum ?z_tuple ?v_MOST_HOUSES ?v_MOST_STEPS ?n_NoHouse ?x_NoHouse ?n_NoTable ?x_NoTable ?n_TooMany ?x_TooMany ?nn0 ?nn1 ?nn2 ?nn3 ?nn4 ?nn5 ?nn6 ?nn7 ?nn8 ?nn9 ?nn10 ?nn11 ?nn12 ?nn13 ?nn14 ?nzValueError ?nzany ?nzisinstance ?xgs ?xtk ?xcls1 ?xga1 ?xgt1 ?xcl1 ?xob1 ?xbe1 ?xve1 ?xex1 ?xk1_1 ?xk1_2 ?xk1_3 ?xk1_4 ?xk1_5 ?xk1_6 ?xk1_7 ?xk1_8 ?xk1_9 ?xk1_10 ?xk1_11 ?xk1_12 ?xk1_13 ?xk1_14 ?xcls10 ?xga10 ?xgt10 ?xcl10 ?xob10 ?xbe10 ?xve10 ?xex10 ?xk10_1 ?xk10_2 ?xk10_3 ?xk10_4 ?xk10_5 ?xk10_6 ?xk10_7 ?xk10_8 ?xk10_9 ?xk10_10 ?xk10_11 ?xk10_12 ?xk10_13 ?xk10_14 ?hL
    (case a1=>k_is)
    (case l1=>k_is)
    (case c1=>k_is)
    (case k1=>k_is)
    (case a2=>k_is)
    (case l2=>k_is)
    (case c2=>k_is)
    (case k2=>k_is)
    (case a3=>k_is)
    (case l3=>k_is)
    (case c3=>k_is)
    (case k3=>k_is)
    (case a4=>k_is)
    (case l4=>k_is)
    (case c4=>k_is)
    (case k4=>k_is)
    (case a5=>k_is)
    (case l5=>k_is)
    (case c5=>k_is)
    (case k5=>k_is)
    (case a6=>k_is)
    (case l6=>k_is)
    (case c6=>k_is)
    (case k6=>k_is)
    (case a7=>k_is)
    (case l7=>k_is)
    (case c7=>k_is)
    (case k7=>k_is)
    (case a8=>k_is)
    (case l8=>k_is)
    (case c8=>k_is)
    (case k8=>k_is)
    (case a9=>k_is)
    (case l9=>k_is)
    (case c9=>k_is)
    (case k9=>k_is)
    (case a10=>k_is)
    (case l10=>k_is)
    (case c10=>k_is)
    (case k10=>k_is)
    (case a11=>k_is)
    (case l11=>k_is)
    (case c11=>k_is)
    (case k11=>k_is)
    (case a12=>k_is)
    (case l12=>k_is)
    (case c12=>k_is)
    (case k12=>k_is)
    (case a13=>k_is)
    (case l13=>k_is)
    (case c13=>k_is)
    (case k13=>k_is)
    (case a14=>k_is)
    (case l14=>k_is)
    (case c14=>k_is)
    (case k14=>k_is)
    (case a15=>k_is)
    (case l15=>k_is)
    (case c15=>k_is)
    (case k15=>k_is)
    (case a16=>k_is)
    (case l16=>k_is)
    (case c16=>k_is)
    (case k16=>k_is)
    (case a17=>k_is)
    (case l17=>k_is)
    (case c17=>k_is)
    (case k17=>k_is)
    (case a18=>k_is)
    (case l18=>k_is)
    (case c18=>k_is)
    (case k18=>k_is)
    (case a19=>k_is)
    (case l19=>k_is)
    (case c19=>k_is)
    (case k19=>k_is)
    (case a20=>k_is)
    (case l20=>k_is)
    (case c20=>k_is)
    (case k20=>k_is)
    (case a21=>k_is)
    (case l21=>k_is)
    (case c21=>k_is)
    (case k21=>k_is)
    (case a22=>k_is)
    (case l22=>k_is)
    (case c22=>k_is)
    (case k22=>k_is)
    (case a23=>k_is)
    (case l23=>k_is)
    (case c23=>k_is)
    (case k23=>k_is)
    (case a24=>k_is)
    (case l24=>k_is)
    (case c24=>k_is)
    (case k24=>k_is)
    (case a25=>k_is)
    (case l25=>k_is)
    (case c25=>k_is)
    (case k25=>k_is)
    (case a26=>k_is)
    (case l26=>k_is)
    (case c26=>k_is)
    (case k26=>k_is)
    (case a27=>k_is)
    (case l27=>k_is)
    (case c27=>k_is)
    (case k27=>k_is)
    (case a28=>k_is)
    (case l28=>k_is)
    (case c28=>k_is)
    (case k28=>k_is)
    (case a29=>k_is)
    (case l29=>k_is)
    (case c29=>k_is)
    (case k29=>k_is)
    (case a30=>k_is)
    (case l30=>k_is)
    (case c30=>k_is)
    (case k30=>k_is)
    (case a31=>k_is)
    (case l31=>k_is)
    (case c31=>k_is)
    (case k31=>k_is)
    (case a32=>k_is)
    (case l32=>k_is)
    (case c32=>k_is)
    (case k32=>k_is)
    (case a33=>k_is)
    (case l33=>k_is)
    (case c33=>k_is)
    (case k33=>k_is)
    (case z_all=>k_is)
    (case z_any=>k_is)
    (case z_bool=>k_is)
    (case z_enumerate=>k_is)
    (case z_int=>k_is)
    (case z_isinstance=>k_is)
    (case z_len=>k_is)
    (case z_list=>k_is)
    (case z_max=>k_is)
    (case z_min=>k_is)
    (case z_range=>k_is)
    (case z_sum=>k_is)
    (case z_tuple=>k_is)
    (case v_MOST_HOUSES=>k_is)
    (case v_MOST_STEPS=>k_is)
    (case n_NoHouse=>k_is)
    (case x_NoHouse=>k_exc)
    (case n_NoTable=>k_is)
    (case x_NoTable=>k_exc)
    (case n_TooMany=>k_is)
    (case x_TooMany=>k_exc)
    (case nn0=>k_is)
    (case nn1=>k_is)
    (case nn2=>k_is)
    (case nn3=>k_is)
    (case nn4=>k_is)
    (case nn5=>k_is)
    (case nn6=>k_is)
    (case nn7=>k_is)
    (case nn8=>k_is)
    (case nn9=>k_is)
    (case nn10=>k_is)
    (case nn11=>k_is)
    (case nn12=>k_is)
    (case nn13=>k_is)
    (case nn14=>k_is)
    (case nzValueError=>k_is)
    (case nzany=>k_is)
    (case nzisinstance=>k_is)
    (case xgs=>k_is)
    (case xtk=>k_is)
    (case xcls1=>k_is)
    (case xga1=>k_is)
    (case xgt1=>k_is)
    (case xcl1=>k_is)
    (case xob1=>k_is)
    (case xbe1=>k_is)
    (case xve1=>kit_is)
    (case xex1=>kts_exm)
    (case xk1_1=>kit_is)
    (case xk1_2=>kit_is)
    (case xk1_3=>kit_is)
    (case xk1_4=>kit_is)
    (case xk1_5=>kit_is)
    (case xk1_6=>kit_is)
    (case xk1_7=>kit_is)
    (case xk1_8=>kit_is)
    (case xk1_9=>kit_is)
    (case xk1_10=>kit_is)
    (case xk1_11=>kit_is)
    (case xk1_12=>kit_is)
    (case xk1_13=>kit_is)
    (case xk1_14=>kit_is)
    (case xcls10=>k_is)
    (case xga10=>k_is)
    (case xgt10=>k_is)
    (case xcl10=>k_is)
    (case xob10=>k_is)
    (case xbe10=>k_is)
    (case xve10=>kit_is)
    (case xex10=>kts_exm)
    (case xk10_1=>kit_is)
    (case xk10_2=>kit_is)
    (case xk10_3=>kit_is)
    (case xk10_4=>kit_is)
    (case xk10_5=>kit_is)
    (case xk10_6=>kit_is)
    (case xk10_7=>kit_is)
    (case xk10_8=>kit_is)
    (case xk10_9=>kit_is)
    (case xk10_10=>kit_is)
    (case xk10_11=>kit_is)
    (case xk10_12=>kit_is)
    (case xk10_13=>kit_is)
    (case xk10_14=>kit_is)
    (case hL=>rfl)
