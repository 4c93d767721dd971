import PyProof.Rows.All
import Wide.All
import OpenK.AllK
import Wide.FinOn
import Lean
import PyProof.EqAt
import PyProof.EqKinds
import PyProof.TupleCall
import PyProof.ZipIter
import PyProof.Draws
import PyProof.SumAny
import PyProof.EnumMake
import PyProof.WalkInts
import PyProof.ExcArgsOwn
import PyProof.ExcAttrAll.ValueError
import PyProof.NsDelKeeps
import KE.KTryMore
import OpenK.KOwn
import PyProof.ListMulRoad
import PyProof.FactsAll.tuple_2
import PyProof.NeKinds
import PyProof.Rows.RuleIs
import PyProof.ExcInit
import PyProof.ExcClass3
import OpenK.KCls
import PyProof.InstStoreFacts
import OpenK.KMake
import PyProof.DictRoads
import PyProof.Rows.CountFlat
import PyProof.ListRange
import PyProof.Rows.SetFrom
import PyProof.CollectStr
import PyProof.Rows.TupMore
import PySem.Challenge.RW_lendwharf_k08_deeds_refused
set_option Elab.async false
set_option linter.all false
set_option maxRecDepth 100000
set_option maxHeartbeats 4000000
noncomputable section
namespace L2
open PySem PySem.Spec PyProof.Rows
abbrev Key:=Sum Int Str
def keyIs : Key -> Value -> Bool
  | .inl k,v=>Value.isInt k v
  | .inr x,v=>Value.isStrOf x v
def keyH (w : World) : Key -> Int
  | .inl k=>hashInt k
  | .inr x=>hashStr w x
theorem keyIs_shape : ∀ {k : Key} {v : Value},keyIs k v = true -> (∃ i t,k = Sum.inl i /\ v = Value.int i t) \/ (∃ x t,k = Sum.inr x /\ v = Value.str x t)
  | .inl i,v,h=>by
    obtain ⟨t,e⟩:=Value.isInt_shape (k:=i) (v:=v) h
    exact .inl ⟨i,t,rfl,e⟩
  | .inr x,v,h=>by
    obtain ⟨t,e⟩:=Value.isStrOf_shape (x:=x) (v:=v) h
    exact .inr ⟨x,t,rfl,e⟩
theorem keyIs_int (i : Int) (t : Tok) : keyIs (.inl i) (.int i t) = true:=by simp [keyIs,Value.isInt]
theorem keyIs_str (x : Str) (t : Tok) : keyIs (.inr x) (.str x t) = true:=by simp [keyIs,Value.isStrOf]
theorem key_ll (a b : Int) : decide ((Sum.inl a : Key) = Sum.inl b) = (a == b):=by
  by_cases e : a = b
  · subst e; simp
  · have h : ¬ (Sum.inl a : Key) = Sum.inl b:=fun q=>e (Sum.inl.inj q)
    rw [decide_eq_false h]
    exact (beq_eq_false_iff_ne.mpr e).symm
theorem key_rr (a b : Str) : decide ((Sum.inr a : Key) = Sum.inr b) = decide (a = b):=by
  by_cases e : a = b
  · subst e; simp
  · have h : ¬ (Sum.inr a : Key) = Sum.inr b:=fun q=>e (Sum.inr.inj q)
    rw [decide_eq_false h,decide_eq_false e]
theorem key_lr (a : Int) (b : Str) : decide ((Sum.inl a : Key) = Sum.inr b) = false:=decide_eq_false (fun q=>nomatch q)
theorem key_rl (a : Str) (b : Int) : decide ((Sum.inr a : Key) = Sum.inl b) = false:=decide_eq_false (fun q=>nomatch q)
def mixKind (prog : Program) (w : World) : PySem.KeyKind prog w Key where
  is:=keyIs
  hash:=keyH w
  inj:=fun v a b ha hb=>by
    rcases keyIs_shape ha with ⟨i,t,rfl,rfl⟩ | ⟨x,t,rfl,rfl⟩
    · rcases keyIs_shape hb with ⟨j,u,rfl,e⟩ | ⟨y,u,rfl,e⟩
      · injection e with e1 _; rw [e1]
      · exact nomatch e
    · rcases keyIs_shape hb with ⟨j,u,rfl,e⟩ | ⟨y,u,rfl,e⟩
      · exact nomatch e
      · injection e with e1 _; rw [e1]
  byValue:=fun k v h=>by
    rcases keyIs_shape h with ⟨i,t,rfl,rfl⟩ | ⟨x,t,rfl,rfl⟩ <;> rfl
  pyHash:=fun hv h=>by
    rcases keyIs_shape hv with ⟨i,t,rfl,rfl⟩ | ⟨x,t,rfl,rfl⟩
    · exact wpAny_pyHash_int h
    · exact wpAny_pyHash_str h
  eqBool:=fun hu hv h=>by
    rcases keyIs_shape hu with ⟨i,t,rfl,rfl⟩ | ⟨x,t,rfl,rfl⟩
    · rcases keyIs_shape hv with ⟨j,u,rfl,rfl⟩ | ⟨y,u,rfl,rfl⟩
      · rw [key_ll] at h; exact wpAny_eqBool_int h
      · rw [key_lr] at h; exact SeqAt.EqAt.int_str i t y u _ _ _ _ h
    · rcases keyIs_shape hv with ⟨j,u,rfl,rfl⟩ | ⟨y,u,rfl,rfl⟩
      · rw [key_rl] at h; exact SeqAt.EqAt.str_int x t j u _ _ _ _ h
      · rw [key_rr] at h; exact wpAny_eqBool_str h
  «strs»:=fun k x t v h=>by
    rcases keyIs_shape h with ⟨i,u,rfl,e⟩ | ⟨y,u,rfl,e⟩
    · exact nomatch e
    · injection e with e1 _
      subst e1
      cases v <;> rfl
theorem mixKind_int (prog : Program) (w : World) (i : Int) (t : Tok) : (mixKind prog w).is (.inl i) (.int i t) = true:=keyIs_int i t
theorem mixKind_str (prog : Program) (w : World) (x : Str) (t : Tok) : (mixKind prog w).is (.inr x) (.str x t) = true:=keyIs_str x t
end L2
namespace L2
open PySem PySem.Spec PyProof.Rows
inductive V where
  | non | bl (b : Bool) | int (i : Int) | str (x : Str) | byt (b : Array UInt8) | flt (b : UInt64) | ref (a : Addr) | ty (n : String)
  deriving DecidableEq
def RelV : V -> Value -> Prop
  | .non,u=>u = Value.none
  | .bl b,u=>u = Value.bool b
  | .int i,u=>∃ t,u = Value.int i t
  | .str x,u=>∃ t,u = Value.str x t
  | .byt b,u=>∃ t,u = Value.bytes b t
  | .flt b,u=>∃ t,u = Value.float b t
  | .ref a,u=>u = Value.ref a
  | .ty n,u=>u = Value.type n
abbrev Vals : List V -> List Value -> Prop:=Paired RelV
theorem Vals.length {xs : List V} {us : List Value} (r : Vals xs us) : xs.length = us.length:=Paired.length r
theorem Vals.get : ∀ {xs : List V} {us : List Value} {i : Nat} {x : V},Vals xs us -> xs[i]? = some x -> ∃ u,us[i]? = some u /\ RelV x u
  | _,_,_,_,.nil,e=>by simp at e
  | _,_,0,_,.cons r _,e=>by simp at e; subst e; exact ⟨_,rfl,r⟩
  | _,_,i + 1,x,.cons _ t,e=>by
    obtain ⟨u,h1,h2⟩:=Vals.get (i:=i) (x:=x) t (by simpa using e)
    exact ⟨u,by simpa using h1,h2⟩
theorem Vals.set {x : V} {u : Value} (r : RelV x u) : ∀ {xs : List V} {us : List Value} (i : Nat),Vals xs us -> Vals (xs.set i x) (us.set i u)
  | _,_,_,.nil=>.nil
  | _,_,0,.cons _ t=>.cons r t
  | _,_,i + 1,.cons q t=>.cons q (Vals.set r i t)
theorem Vals.append : ∀ {xs ys : List V} {us ws : List Value},Vals xs us -> Vals ys ws -> Vals (xs ++ ys) (us ++ ws)
  | _,_,_,_,.nil,s=>s
  | _,_,_,_,.cons r t,s=>.cons r (Vals.append t s)
theorem Vals.take : ∀ {xs : List V} {us : List Value} (n : Nat),Vals xs us -> Vals (xs.take n) (us.take n)
  | _,_,0,_=>.nil
  | _,_,_ + 1,.nil=>.nil
  | _,_,n + 1,.cons r t=>.cons r (Vals.take n t)
theorem Vals.drop : ∀ {xs : List V} {us : List Value} (n : Nat),Vals xs us -> Vals (xs.drop n) (us.drop n)
  | _,_,0,r=>r
  | _,_,_ + 1,.nil=>.nil
  | _,_,n + 1,.cons _ t=>Vals.drop n t
def RelO : Option V -> Option Value -> Prop
  | some v,some u=>RelV v u
  | none,none=>True
  | _,_=>False
def KV {κ : Type} : List (κ × V) -> List (κ × Value) -> Prop:=Paired fun (p : κ × V) (q : κ × Value)=>p.1 = q.1 /\ RelV p.2 q.2
def kV : Key -> V
  | .inl i=>.int i
  | .inr x=>.str x
inductive HO where
  | lst (xs : List V)
  | tup (xs : List V)
  | dK (kvs : List (Key × V)) | dT (kvs : List (List Key × V))
  | set (S : Int -> Bool) (n : Nat)
  | ins (C dx : Addr) (fs : List (Str × V))
  | own (x : Addr)
  | xd (fs : List (Str × V))
  | met (f x : Addr)
  | rng (lo hi : Int)
  | frz (o : Obj) (u : HO)
  | tbl (ps : Array Value)
  | ext (φ : Heap -> Prop)
abbrev Hp:=Addr -> Option HO
def upd (H : Hp) (a : Addr) (o : HO) : Hp:=fun b=>if b = a then some o else H b
theorem upd_same {H : Hp} {a : Addr} {o : HO} : upd H a o a = some o:=by unfold upd; rw [if_pos rfl]
theorem upd_ne {H : Hp} {a b : Addr} {o : HO} (h : b ≠ a) : upd H a o b = H b:=by unfold upd; rw [if_neg h]
theorem ne_of_none {H : Hp} {a b : Addr} {o : HO} (h : H a = some o) (h' : H b = none) : a ≠ b:=by
  intro e; subst e; rw [h] at h'; cases h'
section
variable (P : Program) (w : World)
def ObjOk (H : Hp) (h : Heap) (a : Addr) : HO -> Prop
  | .lst xs=>xs.length <= sizeLine /\ ∃ (its : List Value) (n : Nat),Vals xs its /\ h.get? a = some { cls:=.type "list",data:=.seq its.toArray n }
  | .tup xs=>xs.length <= sizeLine /\ ∃ its : List Value,Vals xs its /\ IsTup h a its.toArray
  | .dK kvs=>kvs.length <= sizeLine /\ (a == sysModules) = false /\ ∃ vs,KV kvs vs /\ h.DictOf (mixKind P w) a vs
  | .dT kvs=>kvs.length <= sizeLine /\ (a == sysModules) = false /\ ∃ xs : List (List Key × Addr × Value),
      Paired (fun (p : List Key × V) (q : List Key × Addr × Value)=>p.1 = q.1 /\ H q.2.1 = some (.tup (p.1.map kV)) /\ RelV p.2 q.2.2) kvs xs /\
      ∃ o es ep,h.get? a = some o /\ o.ExactDict /\ o.data = .dict es ep /\ es.toList = xs.map (entryOfKey (tupleKind (mixKind P w))) /\ (xs.map (·.1)).Nodup
  | .set S n=>h.SetOf (intKind P w) a S n
  | .ins C dx fs=>H dx = some (.own a) /\ fs.length <= 1000 /\ dx ≠ a /\ h.get? a = some (PySem.W.instObj C dx) /\
      ∃ mA,h.Ns1 dx mA /\ (∀ f,RelO (fs.lookup f) (mA f)) /\ PySem.Within mA (fs.map (·.1))
  | .own _=>∃ o,h.get? a = some o
  | .xd fs=>∃ mA,h.Ns1 a mA /\ ∀ f,RelO (fs.lookup f) (mA f)
  | .rng lo hi=>∃ t u v,h.get? a = some { cls:=.type "range",data:=.fields #[.int lo t,.int hi u,.int 1 v] }
  | .frz o u=>h.get? a = some o /\ ObjOk H h a u
  | .tbl ps=>h.get? a = some { cls:=.none,data:=.fields ps }
  | .met f x=>h.get? a = some (PySem.W.methodObj (.ref f) (.ref x))
  | .ext φ=>φ h /\ (∃ o,h.get? a = some o) /\ ∀ h1 h2 : Heap,φ h1 -> (∀ o,h1.get? a = some o -> h2.get? a = some o) -> φ h2
def HOk (H : Hp) (h : Heap) : Prop:=∀ a o,H a = some o -> ObjOk P w H h a o
end
section
variable {P : Program} {w : World} {H H' : Hp} {h h' : Heap} {a : Addr} {o : HO}
theorem ObjOk.lt (x : ObjOk P w H h a o) : a < h.objs.size:=by
  cases o with
  | lst xs=>obtain ⟨_,_,_,_,e⟩:=x; exact Heap.lt_size e
  | tup xs=>obtain ⟨_,_,_,p⟩:=x; exact p.lt
  | dK kvs=>obtain ⟨_,_,_,_,o,_,_,e,_⟩:=x; exact Heap.lt_size e
  | dT kvs=>obtain ⟨_,_,_,_,o,_,_,e,_⟩:=x; exact Heap.lt_size e
  | set S n=>obtain ⟨o,_,_,_,e,_⟩:=x; exact Heap.lt_size e
  | ins C dx fs=>obtain ⟨_,_,_,e,_⟩:=x; exact Heap.lt_size e
  | own y=>obtain ⟨_,e⟩:=x; exact Heap.lt_size e
  | xd fs=>obtain ⟨_,⟨_,_,_,e,_⟩,_⟩:=x; exact Heap.lt_size e
  | rng lo hi=>obtain ⟨_,_,_,e⟩:=x; exact Heap.lt_size e
  | frz ob u=>obtain ⟨e,_⟩:=x; exact Heap.lt_size e
  | tbl ps=>exact Heap.lt_size (show h.get? a = some _ from x)
  | met f y=>exact Heap.lt_size (show h.get? a = some _ from x)
  | ext φ=>obtain ⟨_,⟨_,e⟩,_⟩:=x; exact Heap.lt_size e
theorem Paired.mapP {α β : Type} {F G : α -> β -> Prop} : ∀ {l₁ : List α} {l₂ : List β},Paired F l₁ l₂ -> (∀ a b,F a b -> G a b) -> Paired G l₁ l₂
  | _,_,.nil,_=>.nil
  | _,_,.cons r t,f=>.cons (f _ _ r) (Paired.mapP t f)
theorem ObjOk.stay (x : ObjOk P w H h a o) (k : ∀ b u,(b = a \/ H b = some (.own a)) -> h.get? b = some u -> h'.get? b = some u)
    (ho : ∀ b,H b = some (.own a) -> H' b = some (.own a)) (ht : ∀ b xs,H b = some (.tup xs) -> H' b = some (.tup xs)) : ObjOk P w H' h' a o:=by
  induction o with
  | lst xs=>obtain ⟨z,its,n,r,e⟩:=x; exact ⟨z,its,n,r,k _ _ (.inl rfl) e⟩
  | tup xs=>obtain ⟨z,its,r,ob,e,c⟩:=x; exact ⟨z,its,r,ob,k _ _ (.inl rfl) e,c⟩
  | dK kvs=>obtain ⟨z,y,vs,r,ob,es,ep,e,c⟩:=x; exact ⟨z,y,vs,r,ob,es,ep,k _ _ (.inl rfl) e,c⟩
  | dT kvs=>
    obtain ⟨z,y,xs,r,ob,es,ep,e,c⟩:=x
    exact ⟨z,y,xs,Paired.mapP r fun p q z=>⟨z.1,ht _ _ z.2.1,z.2.2⟩,ob,es,ep,k _ _ (.inl rfl) e,c⟩
  | set S n=>obtain ⟨ob,es,ep,t,e,c⟩:=x; exact ⟨ob,es,ep,t,k _ _ (.inl rfl) e,c⟩
  | ins C dx fs=>
    obtain ⟨d,z,ne,e,mA,⟨od,es,ep,e2,c⟩,r⟩:=x
    exact ⟨ho _ d,z,ne,k _ _ (.inl rfl) e,mA,⟨od,es,ep,k _ _ (.inr d) e2,c⟩,r⟩
  | own y=>obtain ⟨ob,e⟩:=x; exact ⟨ob,k _ _ (.inl rfl) e⟩
  | xd fs=>obtain ⟨mA,⟨od,es,ep,e,c⟩,r⟩:=x; exact ⟨mA,⟨od,es,ep,k _ _ (.inl rfl) e,c⟩,r⟩
  | rng lo hi=>obtain ⟨t,u,v,e⟩:=x; exact ⟨t,u,v,k _ _ (.inl rfl) e⟩
  | frz ob u ih=>obtain ⟨e,q⟩:=x; exact ⟨k _ _ (.inl rfl) e,ih q⟩
  | tbl ps=>
    have e : h.get? a = some { cls:=.none,data:=.fields ps }:=x
    show h'.get? a = some { cls:=.none,data:=.fields ps }
    exact k a _ (.inl rfl) e
  | met f y=>
    have e : h.get? a = some (PySem.W.methodObj (.ref f) (.ref y)):=x
    show h'.get? a = some (PySem.W.methodObj (.ref f) (.ref y))
    exact k a _ (.inl rfl) e
  | ext φ=>obtain ⟨p,⟨o,e⟩,st⟩:=x; exact ⟨st _ _ p fun o q=>k _ _ (.inl rfl) q,⟨o,k _ _ (.inl rfl) e⟩,st⟩
theorem HOk.lt (x : HOk P w H h) (e : H a = some o) : a < h.objs.size:=(x a o e).lt
theorem HOk.fresh (x : HOk P w H h) (e : h.objs.size <= a) : H a = none:=by
  cases q : H a with
  | none=>rfl
  | some u=>exact absurd (Nat.lt_of_lt_of_le (x.lt q) e) (Nat.lt_irrefl _)
theorem HOk.kept (x : HOk P w H h) (k : ∀ b u,h.get? b = some u -> h'.get? b = some u) : HOk P w H h':=fun a o e=>
  (x a o e).stay (fun b u _ q=>k b u q) (fun _ q=>q) fun _ _ q=>q
theorem HOk.laid (x : HOk P w H h) (k : ∀ b u,h.get? b = some u -> h'.get? b = some u) (hp : h.objs.size <= a) (new : ObjOk P w (upd H a o) h' a o) : HOk P w (upd H a o) h':=fun b u e=>by
  have hn:=x.fresh hp
  by_cases hb : b = a
  · subst hb; rw [upd_same] at e; cases e; exact new
  · rw [upd_ne hb] at e
    exact (x b u e).stay (fun c v _ q=>k c v q) (fun c q=>by rw [upd_ne (ne_of_none q hn)]; exact q) fun c xs q=>by rw [upd_ne (ne_of_none q hn)]; exact q
end
def Rd (H : Hp) (a : Addr) (u : HO) : Prop:=H a = some u \/ ∃ o,H a = some (.frz o u)
theorem Rd.ok {P : Program} {w : World} {H : Hp} {h : Heap} {a : Addr} {u : HO} (r : Rd H a u) (x : HOk P w H h) : ObjOk P w H h a u:=by
  rcases r with r | ⟨o,r⟩
  · exact x a u r
  · obtain ⟨_,q⟩:=x a _ r
    exact q
def Mut : Option HO -> Prop
  | some (.lst _)=>True
  | some (.dK _)=>True
  | some (.dT _)=>True
  | some (.set _ _)=>True
  | some (.ins _ _ _)=>True
  | some (.ext _)=>True
  | _=>False
section
variable {P : Program} {w : World} {H : Hp} {h h' : Heap} {x e : Addr} {o' : HO}
theorem HOk.write (ok : HOk P w H h) (mu : Mut (H x)) (he : e = x \/ H e = some (.own x)) (k : ∀ b u,b ≠ e -> h.get? b = some u -> h'.get? b = some u) (heo : ∃ u,h'.get? e = some u)
    (new : ObjOk P w (upd H x o') h' x o') : HOk P w (upd H x o') h':=fun b u q=>by
  have nown : ∀ c y,H c = some (.own y) -> c ≠ x:=fun c y r z=>by subst z; rw [r] at mu; exact mu
  have ntup : ∀ c xs,H c = some (.tup xs) -> c ≠ x:=fun c xs r z=>by subst z; rw [r] at mu; exact mu
  by_cases hb : b = x
  · subst hb; rw [upd_same] at q; cases q; exact new
  · rw [upd_ne hb] at q
    by_cases hbe : b = e
    · have q' : H b = some (.own x):=by
        rcases he with z | z
        · exact absurd (hbe.trans z) hb
        · rw [hbe]; exact z
      rw [q] at q'; cases q'
      obtain ⟨v,hv⟩:=heo
      exact ⟨v,by rw [hbe]; exact hv⟩
    · refine (ok b u q).stay (fun c v hc r=>k c v ?_ r) (fun c r=>by rw [upd_ne (nown c b r)]; exact r) fun c xs r=>by rw [upd_ne (ntup c xs r)]; exact r
      rcases hc with rfl | hc
      · exact hbe
      · rintro rfl
        rcases he with z | z
        · exact nown c b hc z
        · rw [hc] at z; cases z; exact hb rfl
end
structure Un (fs ex : List Addr) (H H' : Hp) (h h' : Heap) : Prop where
  keep : ∀ b o,h.get? b = some o -> H b = none -> b ∉ fs -> b ∉ ex -> h'.get? b = some o
  slot : ∀ b o,h.get? b = some o -> H b = none -> b ∈ fs -> b ∉ ex -> ∃ sl,h'.get? b = some { o with slots:=sl }
  free : ∀ b o,h.get? b = some o -> H b = none -> b ∉ ex -> H' b = none
  there : ∀ b o,h.get? b = some o -> b ∉ ex -> ∃ o',h'.get? b = some o'
  tups : ∀ b xs,H b = some (.tup xs) -> H' b = some (.tup xs)
  frzs : ∀ b o u,H b = some (.frz o u) -> H' b = some (.frz o u)
  tbls : ∀ b ps,H b = some (.tbl ps) -> ∃ more,H' b = some (.tbl (ps ++ more))
section
variable {fs fs' ex ex' : List Addr} {H H1 H2 : Hp} {h h1 h2 h' : Heap} {a x e : Addr} {o : HO}
theorem Un.any (u : Un fs ex H H1 h h1) {b : Addr} {ob : Obj} (q : h.get? b = some ob) (n : H b = none) (hx : b ∉ ex) : ∃ sl,h1.get? b = some { ob with slots:=sl }:=by
  by_cases hb : b ∈ fs
  · exact u.slot b ob q n hb hx
  · exact ⟨ob.slots,u.keep b ob q n hb hx⟩
theorem Un.kept (k : ∀ b u,h.get? b = some u -> h'.get? b = some u) : Un fs ex H H h h':=
  ⟨fun b ob q _ _ _=>k b ob q,fun b ob q _ _ _=>⟨ob.slots,k b ob q⟩,fun _ _ _ n _=>n,fun b ob q _=>⟨ob,k b ob q⟩,fun _ _ q=>q,fun _ _ _ q=>q,fun _ ps q=>⟨#[],by rw [q]; simp⟩⟩
theorem Un.refl : Un fs ex H H h h:=Un.kept fun _ _ q=>q
theorem Un.laid (k : ∀ b u,h.get? b = some u -> h'.get? b = some u) (hp : h.objs.size <= a) (hn : H a = none) : Un fs ex H (upd H a o) h h' where
  keep:=fun b u q _ _ _=>k b u q
  slot:=fun b u q _ _ _=>⟨u.slots,k b u q⟩
  free:=fun b u q n _=>by rw [upd_ne (Nat.ne_of_lt (Nat.lt_of_lt_of_le (Heap.lt_size q) hp))]; exact n
  there:=fun b u q _=>⟨u,k b u q⟩
  tups:=fun b xs q=>by rw [upd_ne (ne_of_none q hn)]; exact q
  frzs:=fun b u xs q=>by rw [upd_ne (ne_of_none q hn)]; exact q
  tbls:=fun b ps q=>⟨#[],by rw [upd_ne (ne_of_none q hn),q]; simp⟩
theorem Un.write (mu : Mut (H x)) (he : e = x \/ H e = some (.own x)) (k : ∀ b u,b ≠ e -> h.get? b = some u -> h'.get? b = some u) (heo : ∃ u,h'.get? e = some u) : Un fs ex H (upd H x o) h h':=by
  have hx : ∀ b,H b = none -> b ≠ x:=fun b n z=>by subst z; rw [n] at mu; exact mu
  have hb : ∀ b,H b = none -> b ≠ e:=fun b n z=>by
    subst z
    rcases he with r | r
    · exact hx b n r
    · rw [n] at r; cases r
  have hm : ∀ b u,H b = some u -> ¬ Mut (some u) -> b ≠ x:=fun b u q nm z=>by subst z; rw [q] at mu; exact nm mu
  refine ⟨fun b u q n _ _=>k b u (hb b n) q,fun b u q n _ _=>⟨u.slots,k b u (hb b n) q⟩,fun b u q n _=>by rw [upd_ne (hx b n)]; exact n,fun b u q _=>?_,
    fun b xs q=>by rw [upd_ne (hm b _ q fun z=>z)]; exact q,fun b u xs q=>by rw [upd_ne (hm b _ q fun z=>z)]; exact q,fun b ps q=>⟨#[],by rw [upd_ne (hm b _ q fun z=>z),q]; simp⟩⟩
  by_cases hbe : b = e
  · subst hbe; exact heo
  · exact ⟨u,k b u hbe q⟩
end
def trk (h : Heap) (H : Hp) : List Addr:=(List.range h.objs.size).filter fun a=>(H a).isSome
def hidT (h : Heap) (H : Hp) : Heap:=PySem.W.hideAll h (trk h H)
theorem hidT_size (h : Heap) (H : Hp) : (hidT h H).objs.size = h.objs.size:=PySem.W.hideAll_size _ _
theorem hidT_get {h : Heap} {H : Hp} {b : Addr} {o : Obj} (e : h.get? b = some o) (n : H b = none) : (hidT h H).get? b = some o:=
  PySem.W.hideAll_get _ e fun hm=>by
    have q : (H b).isSome = true:=(List.mem_filter.mp hm).2
    rw [n] at q; simp at q
theorem of_hidT {h : Heap} {H : Hp} {b : Addr} {o : Obj} (e : (hidT h H).get? b = some o) : h.get? b = some o /\ H b = none:=by
  have e' : h.get? b = some o:=PySem.W.of_hideAll (trk h H) e
  refine ⟨e',?_⟩
  cases q : H b with
  | none=>rfl
  | some x=>
    have hm : b ∈ trk h H:=List.mem_filter.mpr ⟨List.mem_range.mpr (Heap.lt_size e'),by simp [q]⟩
    have z : (hidT h H).get? b = none:=PySem.W.hideAll_none (trk h H) hm
    rw [z] at e; cases e
def allNews (g h : Heap) (L : Addr) : List (Addr × Obj):=(List.range h.objs.size).filterMap fun a=>if a = L \/ (g.get? a).isSome = true then none else (h.get? a).map fun o=>(a,o)
def rest (g h : Heap) (L d : Addr) : List (Addr × Obj):=(allNews g h L).filter fun p=>decide (p.1 ≠ d)
end L2
namespace L2
open PySem PySem.Spec PyProof.Rows
structure Mod (K : PySem.W.Frag) (mg : Str -> Option Value) (base : Heap) : Prop where
  kin : K.In base
  glob : base.Ns mainGlobals mg
  blt : ∃ mb,base.Ns builtinsNs mb /\ ∀ x : Str,x ≠ "__name__" -> mb x = bootBuiltins x
  nolimit : base.NoLimit
structure Cx where
  prog : Program
  w : World
  K : PySem.W.Frag
  mg : Str -> Option Value
  base : Heap
  A : Around
  N : List Str
  s₀ : Shared
  H₀ : Hp
  env : Env
  outer : List Env
  stack : List Env
  ex : List Addr
  fn : Str -> Bool
  calm : Bool
  pn : List (Addr × Obj)
  xe : Value -> Shared -> Prop
def frs (l : List Env) : List Addr:=l.filterMap (·.frame)
abbrev Cx.fs (X : Cx) : List Addr:=frs X.outer
def Vis (sc : Scope) (x : Str) : Prop:=sc.names.lookup x = some .local \/ sc.names.lookup x = some .cell \/ sc.names.lookup x = some .free
def Loc (sc : Scope) (x : Str) : Prop:=sc.names.lookup x = some .local \/ sc.names.lookup x = some .cell
def Look (env : Env) (h : Heap) (m : Str -> Option Value) (x : Str) (u : Value) : Prop:=
  (env.kindOf x = some .local /\ m x = some u) \/ ((env.kindOf x = some .cell \/ env.kindOf x = some .free) /\ ∃ c,env.cells.lookup x = some c /\ h.IsCell c (some u))
structure Cx.Ok (X : Cx) : Prop where
  mod : Mod X.K X.mg X.base
  kind : X.env.scope.kind = .function
  glob : X.env.globals = mainGlobals
  blt : X.env.builtins = builtinsNs
  above : X.s₀.heap.objs.size <= X.env.locals
  inj : ∀ x y c,X.env.cells.lookup x = some c -> X.env.cells.lookup y = some c -> x = y
  has : ∀ x,(X.env.kindOf x = some .cell \/ X.env.kindOf x = some .free) -> ∃ c,X.env.cells.lookup x = some c
  cab : ∀ x c,X.fn x = true -> X.env.cells.lookup x = some c -> X.s₀.heap.objs.size <= c
  hd : X.calm = true -> X.A.handled = none
  frames : X.A.frames = some X.stack
  stk : X.stack = X.outer \/ (X.stack = X.env :: X.outer /\ X.env.frame = some X.env.locals)
  exf : ∀ b ∈ X.ex,b ≠ X.env.locals /\ ∀ x c,X.env.cells.lookup x = some c -> c ≠ b
  bs : ∀ b o,X.base.get? b = some o -> X.s₀.heap.get? b = some o /\ X.H₀ b = none
  bsz : X.base.objs.size <= X.s₀.heap.objs.size
  noex : ∀ b o,X.base.get? b = some o -> b ∉ X.ex
  exfs : ∀ b ∈ X.ex,b ∉ X.fs
  funs : X.s₀.heap.FunFrames X.base X.outer
  frf : ∀ b ∈ X.fs,X.H₀ b = none
structure Inv (X : Cx) (pins : List (Addr × Obj)) (σ : List (Option V)) (H : Hp) (s : Shared) : Prop where
  ok : X.Ok
  os : s.os = X.s₀.os
  bare : AllBare s.gens
  base : Un X.fs X.ex X.H₀ H X.s₀.heap s.heap
  loc : ∃ m,s.heap.Ns X.env.locals m /\ ∀ (i : Nat) (x : Str) (v : V),X.N[i]? = some x -> σ[i]? = some (some v) -> Vis X.env.scope x -> ∃ u,RelV v u /\ Look X.env s.heap m x u
  cell : ∀ x c,X.env.cells.lookup x = some c -> ∃ v,s.heap.IsCell c v
  free : H X.env.locals = none
  freeC : ∀ x c,X.env.cells.lookup x = some c -> H c = none
  pin : ∀ p ∈ X.pn ++ pins,s.heap.get? p.1 = some p.2 /\ H p.1 = none /\ p.1 ≠ X.env.locals /\ p.1 ∉ X.fs /\ ∀ v,p.2.data ≠ .cell v
  hok : HOk X.prog X.w H s.heap
  len : σ.length = X.N.length
section
variable {X : Cx} {pins : List (Addr × Obj)} {σ : List (Option V)} {H H' : Hp} {s : Shared} {h' : Heap}
theorem Cx.Ok.nofr (ok : X.Ok) {b : Addr} {o : Obj} (e : X.base.get? b = some o) : b ∉ X.fs:=fun hb=>by
  have:=(ok.funs.mem hb).1
  rw [e] at this; cases this
theorem Inv.bs (I : Inv X pins σ H s) : ∀ b o,X.base.get? b = some o -> s.heap.get? b = some o /\ H b = none:=fun b o e=>
  ⟨I.base.keep b o (I.ok.bs b o e).1 (I.ok.bs b o e).2 (I.ok.nofr e) (I.ok.noex b o e),I.base.free b o (I.ok.bs b o e).1 (I.ok.bs b o e).2 (I.ok.noex b o e)⟩
theorem Inv.bk (I : Inv X pins σ H s) : ∀ b o,X.base.get? b = some o -> s.heap.get? b = some o:=fun b o e=>(I.bs b o e).1
theorem Inv.mod (I : Inv X pins σ H s) : Mod X.K X.mg X.base:=I.ok.mod
theorem Inv.kIn (I : Inv X pins σ H s) : X.K.In s.heap:=I.ok.mod.kin.keeps I.bk
theorem Inv.lt (I : Inv X pins σ H s) : X.env.locals < s.heap.objs.size:=let ⟨_,hn,_⟩:=I.loc; hn.lt
theorem Inv.sz (I : Inv X pins σ H s) : X.s₀.heap.objs.size <= s.heap.objs.size:=Nat.le_trans I.ok.above (Nat.le_of_lt I.lt)
theorem Inv.nofs (I : Inv X pins σ H s) {a : Addr} (h : s.heap.objs.size <= a) : a ∉ X.fs:=fun hb=>by
  obtain ⟨_,o,ho,_⟩:=I.ok.funs.mem hb
  exact absurd (Nat.lt_of_lt_of_le (Heap.lt_size ho) (Nat.le_trans I.sz h)) (Nat.lt_irrefl _)
theorem Inv.cne (I : Inv X pins σ H s) : ∀ x c,X.env.cells.lookup x = some c -> c ≠ X.env.locals:=fun x c e z=>by
  obtain ⟨v,o,ho,hd⟩:=I.cell x c e
  obtain ⟨m,⟨o',es,ep,ho',hd',_⟩,_⟩:=I.loc
  rw [z,ho'] at ho; cases ho; rw [hd'] at hd; cases hd
theorem Inv.funs (I : Inv X pins σ H s) : s.heap.FunFrames X.base X.outer:=by
  have all : ∀ (l : List Env),(∀ b ∈ frs l,b ∈ X.fs) -> X.s₀.heap.FunFrames X.base l -> s.heap.FunFrames X.base l:=by
    intro l
    induction l with
    | nil=>intro _ _; trivial
    | cons env r ih=>
      intro hs hl
      obtain ⟨hk,⟨L,o,hf,hn,ho,hd⟩,hr⟩:=hl
      have hL : L ∈ X.fs:=hs L (by unfold frs; rw [List.filterMap_cons,hf]; exact List.mem_cons_self)
      obtain ⟨sl,e⟩:=I.base.slot L o ho (I.ok.frf L hL) hL fun z=>I.ok.exfs L z hL
      exact ⟨hk,⟨L,_,hf,hn,e,hd⟩,ih (fun b hb=>hs b (by unfold frs; rw [List.filterMap_cons,hf]; exact List.mem_cons_of_mem _ hb)) hr⟩
  exact all X.outer (fun _ hb=>hb) I.ok.funs
theorem Inv.stack (I : Inv X pins σ H s) : s.heap.FunFrames X.base X.stack:=by
  rcases I.ok.stk with e | ⟨e,hf⟩
  · rw [e]; exact I.funs
  · rw [e]
    obtain ⟨m,hn,_⟩:=I.loc
    refine .cons (by rw [I.ok.kind]; decide) hf hn ?_ I.funs
    exact Heap.get?_none_of_le (Nat.le_trans I.ok.bsz I.ok.above)
theorem Inv.stkSub (I : Inv X pins σ H s) : ∀ b ∈ frs X.stack,b ∈ X.env.locals :: X.fs:=fun b hb=>by
  rcases I.ok.stk with e | ⟨e,hf⟩
  · rw [e] at hb; exact List.mem_cons_of_mem _ hb
  · rw [e] at hb
    unfold frs at hb
    rw [List.filterMap_cons,hf] at hb
    exact hb
theorem Inv.stkFree (I : Inv X pins σ H s) : ∀ b ∈ frs X.stack,H b = none:=fun b hb=>by
  rcases List.mem_cons.mp (I.stkSub b hb) with e | hb
  · rw [e]; exact I.free
  · obtain ⟨_,o,ho,_⟩:=I.ok.funs.mem hb
    exact I.base.free b o ho (I.ok.frf b hb) fun z=>I.ok.exfs b z hb
theorem Inv.step {g' : Array GenState} {t' : Nat} {d' : Drawn} {ch : List Addr} (I : Inv X pins σ H s)
    (hch : ∀ b ∈ ch,(b ∈ X.ex \/ X.s₀.heap.objs.size <= b) /\ b ≠ X.env.locals /\ (∀ x c,X.env.cells.lookup x = some c -> c ≠ b) /\ ∀ p ∈ X.pn ++ pins,p.1 ≠ b)
    (keep : ∀ b o,b ≠ X.env.locals -> b ∉ X.fs -> b ∉ ch -> s.heap.get? b = some o -> H b = none -> h'.get? b = some o)
    (slot : ∀ b o,b ≠ X.env.locals -> b ∈ X.fs -> b ∉ ch -> s.heap.get? b = some o -> H b = none -> ∃ sl,h'.get? b = some { o with slots:=sl }) (free : ∀ b o,b ∉ ch -> s.heap.get? b = some o -> H b = none -> H' b = none)
    (there : ∀ b o,b ∉ ch -> s.heap.get? b = some o -> ∃ o',h'.get? b = some o')
    (tups : ∀ b xs,H b = some (.tup xs) -> H' b = some (.tup xs)) (frzs : ∀ b o u,H b = some (.frz o u) -> H' b = some (.frz o u)) (tbls : ∀ b ps,H b = some (.tbl ps) -> ∃ more,H' b = some (.tbl (ps ++ more)))
    (ns : ∀ m,s.heap.Ns X.env.locals m -> h'.Ns X.env.locals m) (hok : HOk X.prog X.w H' h') (hg : AllBare g') :
    Inv X pins σ H' { s with heap:=h',gens:=g',drawn:=d',toks:=t' }:=by
  have neL : ∀ b o,X.s₀.heap.get? b = some o -> b ≠ X.env.locals:=fun b o e=>Nat.ne_of_lt (Nat.lt_of_lt_of_le (Heap.lt_size e) I.ok.above)
  have neC : ∀ b o,X.s₀.heap.get? b = some o -> b ∉ X.ex -> b ∉ ch:=fun b o e hx hb=>by
    rcases (hch b hb).1 with z | z
    · exact hx z
    · exact absurd (Nat.lt_of_lt_of_le (Heap.lt_size e) z) (Nat.lt_irrefl _)
  have cellK : ∀ x c,X.env.cells.lookup x = some c -> ∀ v,s.heap.IsCell c v -> h'.IsCell c v:=fun x c e v ⟨o,ho,hd⟩=>by
    have nch : c ∉ ch:=fun z=>(hch c z).2.2.1 x c e rfl
    by_cases hc : c ∈ X.fs
    · obtain ⟨sl,q⟩:=slot c o (I.cne x c e) hc nch ho (I.freeC x c e)
      exact ⟨_,q,hd⟩
    · exact ⟨o,keep c o (I.cne x c e) hc nch ho (I.freeC x c e),hd⟩
  refine ⟨I.ok,I.os,hg,⟨fun b o e n hb hx=>?_,fun b o e n hb hx=>?_,fun b o e n hx=>?_,fun b o e hx=>?_,fun b xs e=>tups b xs (I.base.tups b xs e),fun b o xs e=>frzs b o xs (I.base.frzs b o xs e),fun b ps e=>?_⟩,?_,fun x c e=>?_,?_,fun x c e=>?_,fun p hp=>?_,hok,I.len⟩
  · exact keep b o (neL b o e) hb (neC b o e hx) (I.base.keep b o e n hb hx) (I.base.free b o e n hx)
  · obtain ⟨sl,e1⟩:=I.base.slot b o e n hb hx
    obtain ⟨sl',e2⟩:=slot b _ (neL b o e) hb (neC b o e hx) e1 (I.base.free b o e n hx)
    exact ⟨sl',e2⟩
  · obtain ⟨o',e1⟩:=I.base.there b o e hx
    exact free b o' (neC b o e hx) e1 (I.base.free b o e n hx)
  · obtain ⟨o',e1⟩:=I.base.there b o e hx
    exact there b o' (neC b o e hx) e1
  · obtain ⟨m1,e1⟩:=I.base.tbls b ps e
    obtain ⟨m2,e2⟩:=tbls b _ e1
    exact ⟨m1 ++ m2,by rw [e2,Array.append_assoc]⟩
  · obtain ⟨m,hn,hl⟩:=I.loc
    refine ⟨m,ns m hn,fun i x v e1 e2 e3=>?_⟩
    obtain ⟨u,r,l⟩:=hl i x v e1 e2 e3
    refine ⟨u,r,?_⟩
    rcases l with l | ⟨k,c,e,z⟩
    · exact .inl l
    · exact .inr ⟨k,c,e,cellK x c e _ z⟩
  · obtain ⟨v,z⟩:=I.cell x c e
    exact ⟨v,cellK x c e v z⟩
  · obtain ⟨m,⟨o,_,_,ho,_⟩,_⟩:=I.loc
    exact free _ o (fun z=>(hch _ z).2.1 rfl) ho I.free
  · obtain ⟨v,o,ho,hd⟩:=I.cell x c e
    exact free c o (fun z=>(hch c z).2.2.1 x c e rfl) ho (I.freeC x c e)
  · obtain ⟨e,n,ne,nf,d⟩:=I.pin p hp
    have nch : p.1 ∉ ch:=fun z=>(hch p.1 z).2.2.2 p hp rfl
    exact ⟨keep p.1 p.2 ne nf nch e n,free p.1 p.2 nch e n,ne,nf,d⟩
theorem Inv.un {t' : Nat} (I : Inv X pins σ H s) (u : Un X.fs [] H H' s.heap h') (hok : HOk X.prog X.w H' h') : Inv X pins σ H' { s with heap:=h',toks:=t' }:=by
  obtain ⟨m,⟨o,es,ep,ho,r⟩,_⟩:=id I.loc
  obtain ⟨sl,hL⟩:=u.any ho I.free (by simp)
  exact I.step (g':=s.gens) (d':=s.drawn) (ch:=[]) (fun _ z=>nomatch z) (fun b o _ hb _ e n=>u.keep b o e n hb (by simp)) (fun b o _ hb _ e n=>u.slot b o e n hb (by simp)) (fun b o _ e n=>u.free b o e n (by simp)) (fun b o _ e=>u.there b o e (by simp)) u.tups u.frzs u.tbls (fun m' hm=>by
    obtain ⟨o',es',ep',ho',r'⟩:=hm
    rw [ho] at ho'; cases ho'
    exact ⟨_,es',ep',hL,r'⟩) hok I.bare
theorem Inv.call {g' : Array GenState} {t' : Nat} {d' : Drawn} {ch : List Addr} (I : Inv X pins σ H s) (u : Un (frs X.stack) ch H H' s.heap h') (hok : HOk X.prog X.w H' h') (hg : AllBare g')
    (hch : ∀ b ∈ ch,(b ∈ X.ex \/ X.s₀.heap.objs.size <= b) /\ b ≠ X.env.locals /\ (∀ x c,X.env.cells.lookup x = some c -> c ≠ b) /\ ∀ p ∈ X.pn ++ pins,p.1 ≠ b) :
    Inv X pins σ H' { s with heap:=h',gens:=g',drawn:=d',toks:=t' }:=by
  obtain ⟨m,⟨o,es,ep,ho,r⟩,_⟩:=id I.loc
  obtain ⟨sl,hL⟩:=u.any ho I.free fun z=>(hch _ z).2.1 rfl
  exact I.step (ch:=ch) hch (fun b o hL hb hc e n=>u.keep b o e n (fun z=>(List.mem_cons.mp (I.stkSub b z)).elim hL hb) hc) (fun b o _ _ hc e n=>u.any e n hc) (fun b o hc e n=>u.free b o e n hc) (fun b o hc e=>u.there b o e hc) u.tups u.frzs u.tbls (fun m' hm=>by
    obtain ⟨o',es',ep',ho',r'⟩:=hm
    rw [ho] at ho'; cases ho'
    exact ⟨_,es',ep',hL,r'⟩) hok hg
theorem Inv.turned {t' : Nat} {it : Addr} (I : Inv X pins σ H s) (k : ∀ b o,b ≠ it -> s.heap.get? b = some o -> h'.get? b = some o) (hn : H it = none) (hL : it ≠ X.env.locals)
    (h1 : it ∈ X.ex \/ X.s₀.heap.objs.size <= it) (h2 : ∀ x c,X.env.cells.lookup x = some c -> c ≠ it) (h3 : ∀ p ∈ X.pn ++ pins,p.1 ≠ it) : Inv X pins σ H { s with heap:=h',toks:=t' }:=by
  have nit : ∀ b u,H b = some u -> b ≠ it:=fun b u e z=>by rw [z,hn] at e; cases e
  refine I.step (g':=s.gens) (d':=s.drawn) (ch:=[it]) (fun b hb=>?_) (fun b o _ _ hc e _=>k b o (fun z=>hc (by simp [z])) e) (fun b o _ _ hc e _=>⟨o.slots,k b o (fun z=>hc (by simp [z])) e⟩) (fun _ _ _ _ n=>n)
    (fun b o hc e=>⟨o,k b o (fun z=>hc (by simp [z])) e⟩) (fun _ _ e=>e) (fun _ _ _ e=>e) (fun b ps e=>⟨#[],by rw [e]; simp⟩) (fun m hm=>?_) (fun b u e=>?_) I.bare
  · have e : b = it:=by simpa using hb
    subst e
    exact ⟨h1,hL,h2,h3⟩
  · obtain ⟨o,es,ep,ho,r⟩:=hm
    exact ⟨o,es,ep,k _ o (Ne.symm hL) ho,r⟩
  · refine (I.hok b u e).stay (fun c v hc q=>k c v ?_ q) (fun _ q=>q) fun _ _ q=>q
    rcases hc with z | z
    · rw [z]; exact nit b u e
    · exact nit c _ z
theorem Inv.tok (I : Inv X pins σ H s) (t : Nat) : Inv X pins σ H { s with toks:=t }:=I.un (h':=s.heap) (t':=t) Un.refl I.hok
theorem Inv.kept {t' : Nat} (I : Inv X pins σ H s) (k : ∀ b u,s.heap.get? b = some u -> h'.get? b = some u) : Inv X pins σ H { s with heap:=h',toks:=t' }:=I.un (Un.kept k) (I.hok.kept k)
theorem Inv.laid {a : Addr} {o : HO} {t' : Nat} (I : Inv X pins σ H s) (k : ∀ b u,s.heap.get? b = some u -> h'.get? b = some u) (hp : s.heap.objs.size <= a) (new : ObjOk X.prog X.w (upd H a o) h' a o) :
    Inv X pins σ (upd H a o) { s with heap:=h',toks:=t' }:=I.un (Un.laid k hp (I.hok.fresh hp)) (I.hok.laid k hp new)
theorem Inv.write {x e : Addr} {o : HO} {t' : Nat} (I : Inv X pins σ H s) (mu : Mut (H x)) (he : e = x \/ H e = some (.own x)) (k : ∀ b u,b ≠ e -> s.heap.get? b = some u -> h'.get? b = some u) (heo : ∃ u,h'.get? e = some u)
    (new : ObjOk X.prog X.w (upd H x o) h' x o) : Inv X pins σ (upd H x o) { s with heap:=h',toks:=t' }:=I.un (Un.write mu he k heo) (I.hok.write mu he k heo new)
theorem Inv.pins_of {pins' : List (Addr × Obj)} (I : Inv X pins σ H s) (h : ∀ p ∈ pins',s.heap.get? p.1 = some p.2 /\ H p.1 = none /\ p.1 ≠ X.env.locals /\ p.1 ∉ X.fs /\ ∀ v,p.2.data ≠ .cell v) : Inv X pins' σ H s:=
  ⟨I.ok,I.os,I.bare,I.base,I.loc,I.cell,I.free,I.freeC,fun p hp=>(List.mem_append.mp hp).elim (fun z=>I.pin p (List.mem_append_left _ z)) (h p),I.hok,I.len⟩
theorem nodup_ix {N : List Str} (hN : N.Nodup) {i j : Nat} {x : Str} (a : N[i]? = some x) (b : N[j]? = some x) : i = j:=by
  obtain ⟨h1,e1⟩:=List.getElem?_eq_some_iff.mp a
  obtain ⟨h2,e2⟩:=List.getElem?_eq_some_iff.mp b
  exact (List.getElem_inj hN).mp (e1.trans e2.symm)
theorem store_ok2 {M : Model} {A : Around} {E : Value -> Shared -> Prop} {i : Nat} {x : Str} {v : V} {u : Value} {Q : Unit -> Shared -> Prop} (I : Inv X pins σ H s) (hN : X.N.Nodup) (hi : X.N[i]? = some x) (hx : Loc X.env.scope x) (r : RelV v u)
    (h : ∀ s',Inv X pins (σ.set i (some v)) H s' -> (∃ a,Heap.SameBut a s.heap s'.heap /\ (a = X.env.locals \/ X.env.cells.lookup x = some a)) -> Q () s') (hf : X.fn x = true \/ X.env.scope.names.lookup x = some .local:=by first | exact .inl rfl | exact .inr rfl | assumption) : wpAny M A (storeName X.env x u) Q E s:=by
  obtain ⟨m,hn,hl⟩:=id I.loc
  have hcls : (X.env.scope.kind == .class || (X.env.scope.kind == .module && X.env.locals != X.env.globals)) = false:=by rw [I.ok.kind]; rfl
  have hiσ : i < σ.length:=by rw [I.len]; exact (List.getElem?_eq_some_iff.mp hi).1
  have cne:=I.cne
  have tracked : ∀ {a : Addr} {h' : Heap},(∃ o,s.heap.get? a = some o /\ H a = none) -> Heap.SameBut a s.heap h' -> HOk X.prog X.w H h':=fun {a h'} ha hs b ob e=>by
    obtain ⟨_,_,hfree⟩:=ha
    refine (I.hok b ob e).stay (fun c w' hc q=>(hs.2 c ?_).trans q) (fun _ q=>q) fun _ _ q=>q
    rintro rfl
    rcases hc with rfl | hc
    · rw [hfree] at e; cases e
    · rw [hfree] at hc; cases hc
  rcases hx with hk | hk
  · refine wpAny_storeName_local hk hn (fun h' hn' hs=>?_) hcls
    obtain ⟨oL,_,_,hoL,_⟩:=id hn
    refine h _ ⟨I.ok,I.os,I.bare,⟨fun b o e n hb hx=>?_,fun b o e n hb hx=>?_,I.base.free,fun b o e hx=>?_,I.base.tups,I.base.frzs,I.base.tbls⟩,⟨_,hn',fun j y v' e1 e2 e3=>?_⟩,fun y c e=>?_,I.free,I.freeC,fun p hp=>?_,tracked ⟨oL,hoL,I.free⟩ hs,by simpa using I.len⟩ ⟨_,hs,.inl rfl⟩
    · exact (hs.2 b (Nat.ne_of_lt (Nat.lt_of_lt_of_le (Heap.lt_size e) I.ok.above))).trans (I.base.keep b o e n hb hx)
    · obtain ⟨sl,e1⟩:=I.base.slot b o e n hb hx
      exact ⟨sl,(hs.2 b (Nat.ne_of_lt (Nat.lt_of_lt_of_le (Heap.lt_size e) I.ok.above))).trans e1⟩
    · obtain ⟨o',e1⟩:=I.base.there b o e hx
      exact ⟨o',(hs.2 b (Nat.ne_of_lt (Nat.lt_of_lt_of_le (Heap.lt_size e) I.ok.above))).trans e1⟩
    · by_cases hj : j = i
      · subst hj
        rw [hi] at e1; cases e1
        rw [List.getElem?_set_self hiσ] at e2
        cases e2
        exact ⟨u,r,.inl ⟨hk,by simp⟩⟩
      · rw [List.getElem?_set_ne (Ne.symm hj)] at e2
        obtain ⟨u',r',q⟩:=hl j y v' e1 e2 e3
        refine ⟨u',r',?_⟩
        rcases q with ⟨k,e⟩ | ⟨k,c,e,z⟩
        · refine .inl ⟨k,?_⟩
          have : y ≠ x:=fun e=>hj (nodup_ix hN e1 (e ▸ hi))
          simp [this,e]
        · exact .inr ⟨k,c,e,z.sameBut hs (cne y c e)⟩
    · obtain ⟨w',z⟩:=I.cell y c e
      exact ⟨w',z.sameBut hs (cne y c e)⟩
    · obtain ⟨e,n,ne,nf,d⟩:=I.pin p hp
      exact ⟨(hs.2 p.1 ne).trans e,n,ne,nf,d⟩
  · have hfn : X.fn x = true:=by
      rcases hf with z | z
      · exact z
      · rw [z] at hk; cases hk
    obtain ⟨c,hc⟩:=I.ok.has x (.inl hk)
    obtain ⟨w',z⟩:=I.cell x c hc
    refine wpAny_storeName_cell I.ok.kind hk hc z (fun h' hc' hs=>?_)
    obtain ⟨oc,hoc,hocd⟩:=id z
    refine h { s with heap:=h' } ⟨I.ok,I.os,I.bare,⟨fun b o e n hb hx=>?_,fun b o e n hb hx=>?_,I.base.free,fun b o e hx=>?_,I.base.tups,I.base.frzs,I.base.tbls⟩,⟨m,hn.sameBut hs (Ne.symm (cne x c hc)),fun j y v' e1 e2 e3=>?_⟩,fun y c' e=>?_,I.free,I.freeC,fun p hp=>?_,tracked ⟨oc,hoc,I.freeC x c hc⟩ hs,by simpa using I.len⟩ ⟨c,hs,.inr hc⟩
    · exact (hs.2 b (Nat.ne_of_lt (Nat.lt_of_lt_of_le (Heap.lt_size e) (I.ok.cab x c hfn hc)))).trans (I.base.keep b o e n hb hx)
    · obtain ⟨sl,e1⟩:=I.base.slot b o e n hb hx
      exact ⟨sl,(hs.2 b (Nat.ne_of_lt (Nat.lt_of_lt_of_le (Heap.lt_size e) (I.ok.cab x c hfn hc)))).trans e1⟩
    · obtain ⟨o',e1⟩:=I.base.there b o e hx
      exact ⟨o',(hs.2 b (Nat.ne_of_lt (Nat.lt_of_lt_of_le (Heap.lt_size e) (I.ok.cab x c hfn hc)))).trans e1⟩
    · by_cases hj : j = i
      · subst hj
        rw [hi] at e1; cases e1
        rw [List.getElem?_set_self hiσ] at e2
        cases e2
        exact ⟨u,r,.inr ⟨.inl hk,c,hc,hc'⟩⟩
      · rw [List.getElem?_set_ne (Ne.symm hj)] at e2
        obtain ⟨u',r',q⟩:=hl j y v' e1 e2 e3
        refine ⟨u',r',?_⟩
        rcases q with q | ⟨k,c',e,z'⟩
        · exact .inl q
        · refine .inr ⟨k,c',e,z'.sameBut hs ?_⟩
          rintro rfl
          exact hj (nodup_ix hN e1 (I.ok.inj _ _ _ e hc ▸ hi))
    · by_cases hcc : c' = c
      · subst hcc; exact ⟨_,hc'⟩
      · obtain ⟨w2,z2⟩:=I.cell y c' e
        exact ⟨w2,z2.sameBut hs hcc⟩
    · obtain ⟨e,n,ne,nf,d⟩:=I.pin p hp
      refine ⟨(hs.2 p.1 ?_).trans e,n,ne,nf,d⟩
      intro q
      rw [q,hoc] at e
      have q' : oc = p.2:=Option.some.inj e
      exact d w' (by rw [<- q']; exact hocd)
theorem store_ok {M : Model} {A : Around} {E : Value -> Shared -> Prop} {i : Nat} {x : Str} {v : V} {u : Value} {Q : Unit -> Shared -> Prop} (I : Inv X pins σ H s) (hN : X.N.Nodup) (hi : X.N[i]? = some x) (hx : Loc X.env.scope x) (r : RelV v u)
    (h : ∀ s',Inv X pins (σ.set i (some v)) H s' -> Q () s') (hf : X.fn x = true \/ X.env.scope.names.lookup x = some .local:=by first | exact .inl rfl | exact .inr rfl | assumption) : wpAny M A (storeName X.env x u) Q E s:=
  store_ok2 I hN hi hx r (fun s' I' _=>h s' I') hf
theorem Inv.call' {s' : Shared} {ch : List Addr} (I : Inv X pins σ H s) (ho : s'.os = s.os) (u : Un (frs X.stack) ch H H' s.heap s'.heap) (hok : HOk X.prog X.w H' s'.heap) (hg : AllBare s'.gens)
    (hch : ∀ b ∈ ch,(b ∈ X.ex \/ X.s₀.heap.objs.size <= b) /\ b ≠ X.env.locals /\ (∀ x c,X.env.cells.lookup x = some c -> c ≠ b) /\ ∀ p ∈ X.pn ++ pins,p.1 ≠ b) : Inv X pins σ H' s':=by
  obtain ⟨h',g',d',t',o'⟩:=s'
  have e : o' = s.os:=ho
  subst e
  exact I.call (g':=g') (t':=t') (d':=d') u hok hg hch
end
abbrev XK:=Value -> Option Addr -> Hp -> Prop
abbrev St:=List (Option V)
abbrev VK:=V -> Hp -> Prop
abbrev TE:=St -> Hp -> VK -> Prop
abbrev TT:=St -> Hp -> (Bool -> Hp -> Prop) -> Prop
abbrev TA:=St -> Hp -> (List V -> Hp -> Prop) -> Prop
structure Ends where
  nx : St -> Hp -> Prop
  rt : VK
  bk : St -> Hp -> Prop:=fun _ _=>False
  ct : St -> Hp -> Prop:=fun _ _=>False
abbrev TS:=Ends -> St -> Hp -> Prop
def EP (X : Cx) (pins : List (Addr × Obj)) (σ : St) (Q : VK) (u : Value) (s' : Shared) : Prop:=∃ v H',Inv X pins σ H' s' /\ RelV v u /\ Q v H'
def TP (X : Cx) (pins : List (Addr × Obj)) (σ : St) (Q : Bool -> Hp -> Prop) (b : Bool) (s' : Shared) : Prop:=∃ H',Inv X pins σ H' s' /\ Q b H'
def AP (X : Cx) (pins : List (Addr × Obj)) (σ : St) (Q : List V -> Hp -> Prop) (us : List Value) (s' : Shared) : Prop:=∃ vs H',Inv X pins σ H' s' /\ Vals vs us /\ Q vs H'
def SP (X : Cx) (pins : List (Addr × Obj)) (D : Ends) (f : Flow) (s' : Shared) : Prop:=
  match f with
  | .next=>∃ σ' H',Inv X pins σ' H' s' /\ D.nx σ' H'
  | .brk=>∃ σ' H',Inv X pins σ' H' s' /\ D.bk σ' H'
  | .cont=>∃ σ' H',Inv X pins σ' H' s' /\ D.ct σ' H'
  | .ret u=>∃ v σ' H',Inv X pins σ' H' s' /\ RelV v u /\ D.rt v H'
def PE (X : Cx) (e : Expr) (t : TE) : Prop:=
  ∀ (pins : List (Addr × Obj)) (s : Shared) (σ : St) (H : Hp) (Q : VK),Inv X pins σ H s -> t σ H Q -> wpAny (model X.prog X.w) X.A (eval e X.env) (EP X pins σ Q) X.xe s
def PT (X : Cx) (e : Expr) (t : TT) : Prop:=
  ∀ (pins : List (Addr × Obj)) (s : Shared) (σ : St) (H : Hp) (Q : Bool -> Hp -> Prop),Inv X pins σ H s -> t σ H Q -> wpAny (model X.prog X.w) X.A (isTrue e X.env (eval e X.env)) (TP X pins σ Q) X.xe s
def PW (X : Cx) (e : Expr) (t : TT) : Prop:=
  ∀ (whole : Sem Value) (pins : List (Addr × Obj)) (s : Shared) (σ : St) (H : Hp) (Q : Bool -> Hp -> Prop),Inv X pins σ H s -> t σ H Q -> wpAny (model X.prog X.w) X.A (isTrue e X.env whole) (TP X pins σ Q) X.xe s
theorem PW.pt {X : Cx} {e : Expr} {t : TT} (h : PW X e t) : PT X e t:=h _
def PA (X : Cx) (es : List Expr) (t : TA) : Prop:=
  ∀ (pos : Pos) (pins : List (Addr × Obj)) (s : Shared) (σ : St) (H : Hp) (Q : List V -> Hp -> Prop),Inv X pins σ H s -> t σ H Q -> wpAny (model X.prog X.w) X.A (spliced (backTo pos (starEach es X.env))) (AP X pins σ Q) X.xe s
def PS (X : Cx) (st : Stmt) (t : TS) : Prop:=
  ∀ (pins : List (Addr × Obj)) (s : Shared) (σ : St) (H : Hp) (D : Ends),Inv X pins σ H s -> t D σ H -> wpAny (model X.prog X.w) X.A (exec st X.env) (SP X pins D) X.xe s
def PSs (X : Cx) (st : List Stmt) (t : TS) : Prop:=
  ∀ (pins : List (Addr × Obj)) (s : Shared) (σ : St) (H : Hp) (D : Ends),Inv X pins σ H s -> t D σ H -> wpAny (model X.prog X.w) X.A (execs st X.env) (SP X pins D) X.xe s
theorem thn {α : Type} {t : Sem α} {Q Q' : α -> Shared -> Prop} {M : Model} {A : Around} {E : Value -> Shared -> Prop} {s : Shared} (h : wpAny M A t Q E s) (hQ : ∀ a s,Q a s -> Q' a s) : wpAny M A t Q' E s:=wpAny_mono h hQ fun _ _ x=>x
end L2
namespace L2
open PySem PySem.Spec PyProof.Rows
section
variable {X : Cx}
def tVar (i : Nat) : TE:=fun σ H Q=>∃ v,σ[i]? = some (some v) /\ Q v H
def tC (v : V) : TE:=fun _ H Q=>Q v H
theorem pe_var {i : Nat} {x : Str} {pos : Pos} (hN : X.N[i]? = some x) (hv : Vis X.env.scope x) (hd : (x == ("__debug__" : Str)) = false:=by decide) (hcd : (x == ("__classdict__" : Str)) = false:=by decide) : PE X (.Name x pos) (tVar i):=by
  intro pins s σ H Q I h
  obtain ⟨v,e,h⟩:=h
  obtain ⟨m,hn,hl⟩:=I.loc
  obtain ⟨u,r,l⟩:=hl i x v hN e hv
  have fin : EP X pins σ Q u s:=⟨v,H,I,r,h⟩
  rcases l with ⟨hk,hm⟩ | ⟨hk,c,hc,hcell⟩
  · exact wpAny_Name (wpAny_loadName_local I.ok.kind hk hn hm fin) hd
  · rcases hk with hk | hk
    · exact wpAny_Name (wpAny_loadName_cell I.ok.kind hk hc hcell fin) hd
    · exact wpAny_Name (wpAny_loadName_free I.ok.kind hk hc hcell fin hcd) hd
theorem pe_int {i j pos} : PE X (.Constant (.int i) j pos) (tC (.int i)):=fun _ _ _ H _ I h=>wpAny_Constant_int ⟨.int i,H,I.tok _,⟨_,rfl⟩,h⟩
theorem pe_bl {b j pos} : PE X (.Constant (.bool b) j pos) (tC (.bl b)):=fun _ _ _ H _ I h=>Constant_bool ⟨.bl b,H,I,rfl,h⟩
theorem pe_str {x j pos} : PE X (.Constant (.str x) j pos) (tC (.str x)):=fun _ _ _ H _ I h=>Calls.Constant_str ⟨.str x,H,I.tok _,⟨_,rfl⟩,h⟩
def Gl (X : Cx) (x : Str) : Prop:=X.env.kindOf x = some .globalImplicit
theorem ld_glob {E : Value -> Shared -> Prop} {pins : List (Addr × Obj)} {s : Shared} {σ : St} {H : Hp} {x : Str} {u : Value} {pos : Pos} {Q : Value -> Shared -> Prop} (I : Inv X pins σ H s) (hg : Gl X x) (hm : X.mg x = some u) (h : Q u s)
    (hd : (x == ("__debug__" : Str)) = false:=by decide) : wpAny (model X.prog X.w) X.A (eval (.Name x pos) X.env) Q E s:=
  Calls.Name_function_global I.ok.kind hg (Calls.loadGlobal_global (by rw [I.ok.glob]; exact I.mod.glob.keeps I.bk) hm h) hd
theorem ld_blt {E : Value -> Shared -> Prop} {pins : List (Addr × Obj)} {s : Shared} {σ : St} {H : Hp} {x : Str} {u : Value} {pos : Pos} {Q : Value -> Shared -> Prop} (I : Inv X pins σ H s) (hg : Gl X x) (hm : X.mg x = none) (hv : bootBuiltins x = some u) (h : Q u s)
    (hn : x ≠ "__name__" := by decide) (hd : (x == ("__debug__" : Str)) = false:=by decide) : wpAny (model X.prog X.w) X.A (eval (.Name x pos) X.env) Q E s:=by
  obtain ⟨mb,h1,h2⟩:=I.mod.blt
  exact Calls.Name_function_global I.ok.kind hg (Calls.loadGlobal_builtin (by rw [I.ok.glob]; exact I.mod.glob.keeps I.bk) hm (by rw [I.ok.blt]; exact h1.keeps I.bk) ((h2 x hn).trans hv) h) hd
theorem pe_glob {x : Str} {v : V} {u : Value} {pos : Pos} (hg : Gl X x) (hm : X.mg x = some u) (r : RelV v u) (hd : (x == ("__debug__" : Str)) = false:=by decide) : PE X (.Name x pos) (tC v):=
  fun _ _ _ H _ I h=>ld_glob I hg hm ⟨v,H,I,r,h⟩ hd
theorem pe_bltn {x : Str} {v : V} {u : Value} {pos : Pos} (hg : Gl X x) (hm : X.mg x = none) (hv : bootBuiltins x = some u) (r : RelV v u) (hn : x ≠ "__name__" := by decide) (hd : (x == ("__debug__" : Str)) = false:=by decide) : PE X (.Name x pos) (tC v):=
  fun _ _ _ H _ I h=>ld_blt I hg hm hv ⟨v,H,I,r,h⟩ hn hd
variable {a b : Expr} {ta tb : TE} {pos : Pos}
def tB (t : TE) : TT:=fun σ H Q=>t σ H fun x H1=>∃ c,x = .bl c /\ Q c H1
theorem pt_val {e : Expr} {t : TE} (h : PE X e t) (he : ∀ whole,isTrue e X.env whole = (do let v <- whole; standAt e.pos; holding [v] (truthy v)):=by intro _; rfl) : PT X e (tB t):=by
  intro pins s σ H Q I hw
  refine isTrue_plain (thn (h pins s σ H _ I hw) fun v s1 ⟨x,H1,I1,r1,q1⟩=>?_) (he _)
  obtain ⟨d,rfl,q⟩:=q1
  cases r1
  exact wpAny_truthy_bool ⟨H1,I1,q⟩
variable {tA tB' : TT} {rest : List Expr}
def tAnd (t u : TT) : TT:=fun σ H Q=>t σ H fun c H1=>if c = true then u σ H1 Q else Q false H1
def tOr (t u : TT) : TT:=fun σ H Q=>t σ H fun c H1=>if c = true then Q true H1 else u σ H1 Q
def tNot (t : TT) : TT:=fun σ H Q=>t σ H fun c H1=>Q (!c) H1
theorem pw_and1 (ha : PT X a tA) : PW X (.BoolOp .And [a] pos) tA:=by
  intro wh pins s σ H Q I h
  refine isTrue_and (thn (ha pins s σ H Q I h) fun c s1 e=>?_)
  cases c with
  | true=>exact isTrue_and_nil e
  | false=>exact e
theorem pw_or1 (ha : PT X a tA) : PW X (.BoolOp .Or [a] pos) tA:=by
  intro wh pins s σ H Q I h
  refine isTrue_or (thn (ha pins s σ H Q I h) fun c s1 e=>?_)
  cases c with
  | false=>exact isTrue_or_nil e
  | true=>exact e
theorem pw_and (ha : PT X a tA) (hb : PW X (.BoolOp .And (b :: rest) pos) tB') : PW X (.BoolOp .And (a :: b :: rest) pos) (tAnd tA tB'):=by
  intro wh pins s σ H Q I h
  refine isTrue_and (thn (ha pins s σ H _ I h) fun c s1 ⟨H1,I1,q1⟩=>?_)
  cases c with
  | true=>exact hb wh pins s1 σ H1 Q I1 q1
  | false=>exact ⟨H1,I1,q1⟩
theorem pw_or (ha : PT X a tA) (hb : PW X (.BoolOp .Or (b :: rest) pos) tB') : PW X (.BoolOp .Or (a :: b :: rest) pos) (tOr tA tB'):=by
  intro wh pins s σ H Q I h
  refine isTrue_or (thn (ha pins s σ H _ I h) fun c s1 ⟨H1,I1,q1⟩=>?_)
  cases c with
  | true=>exact ⟨H1,I1,q1⟩
  | false=>exact hb wh pins s1 σ H1 Q I1 q1
theorem pt_not (ha : PT X a tA) : PT X (.UnaryOp .Not a pos) (tNot tA):=by
  intro pins s σ H Q I h
  exact isTrue_not (ha pins s σ H (fun c H1=>Q (!c) H1) I h)
def tAndV (ta tb : TE) : TE:=fun σ H Q=>ta σ H fun x H1=>∃ c,x = .bl c /\ if c = true then tb σ H1 Q else Q (.bl false) H1
def tNotV (ta : TE) : TE:=fun σ H Q=>ta σ H fun x H1=>∃ c,x = .bl c /\ Q (.bl (!c)) H1
theorem pe_one {op} {t : TE} (h : PE X a t) : PE X (.BoolOp op [a] pos) t:=fun pins s σ H Q I hw=>BoolOp_one (h pins s σ H Q I hw)
theorem pe_and (ha : PE X a ta) (hb : PE X (.BoolOp .And (b :: rest) pos) tb) : PE X (.BoolOp .And (a :: b :: rest) pos) (tAndV ta tb):=by
  intro pins s σ H Q I h
  refine BoolOp_and (thn (ha pins s σ H _ I h) fun v s1 ⟨x,H1,I1,r1,q1⟩=>?_)
  obtain ⟨c,rfl,q1⟩:=q1
  cases r1
  refine wpAny_truthy_bool ?_
  cases c with
  | true=>exact hb pins s1 σ H1 Q I1 q1
  | false=>exact ⟨.bl false,H1,I1,rfl,q1⟩
theorem pe_not (ha : PE X a ta) : PE X (.UnaryOp .Not a pos) (tNotV ta):=by
  intro pins s σ H Q I h
  refine UnaryOp_ (thn (ha pins s σ H _ I h) fun v s1 ⟨x,H1,I1,r1,q1⟩=>?_)
  obtain ⟨c,rfl,q1⟩:=q1
  cases r1
  exact not_of (wpAny_truthy_bool ⟨.bl (!c),H1,I1,rfl,q1⟩)
end
end L2
namespace L2
open PySem PySem.Spec PyProof.Rows
def SqL (K : PySem.W.Frag) (H : Hp) (a : Addr) (xs : List V) : Prop:=
  Rd H a (.lst xs) \/
    ∃ (o : Obj) (its : Array Value) (n : Nat),K.lookup a = some o /\ o.cls = .type "list" /\ o.dict = none /\ o.data = .seq its n /\ its.size <= sizeLine /\ Vals xs its.toList
def SqT (K : PySem.W.Frag) (H : Hp) (a : Addr) (xs : List V) : Prop:=
  Rd H a (.tup xs) \/
    ∃ (o : Obj) (its : Array Value) (n : Nat),K.lookup a = some o /\ o.cls = .type "tuple" /\ o.data = .seq its n /\ its.size <= sizeLine /\ Vals xs its.toList
def absV : Value -> Option V
  | .none=>some .non
  | .bool b=>some (.bl b)
  | .int i _=>some (.int i)
  | .str x _=>some (.str x)
  | .bytes b _=>some (.byt b)
  | .float b _=>some (.flt b)
  | .ref a=>some (.ref a)
  | .type n=>some (.ty n)
  | _=>none
theorem RelV.abs {x : V} {u : Value} (r : RelV x u) : absV u = some x:=by
  cases x with
  | non=>cases r; rfl
  | bl _=>cases r; rfl
  | int _=>obtain ⟨t,rfl⟩:=r; rfl
  | str _=>obtain ⟨t,rfl⟩:=r; rfl
  | byt _=>obtain ⟨t,rfl⟩:=r; rfl
  | flt _=>obtain ⟨t,rfl⟩:=r; rfl
  | ref _=>cases r; rfl
  | ty _=>cases r; rfl
theorem RelV.inj {x y : V} {u : Value} (r : RelV x u) (q : RelV y u) : x = y:=Option.some.inj (r.abs.symm.trans q.abs)
theorem Vals.inj : ∀ {xs ys : List V} {us : List Value},Vals xs us -> Vals ys us -> xs = ys
  | _,_,_,.nil,.nil=>rfl
  | _,_,_,.cons r t,.cons r' t'=>by rw [r.inj r',Vals.inj t t']
section
variable {X : Cx} {pins : List (Addr × Obj)} {σ : St} {H : Hp} {s : Shared} {a : Addr} {xs ys : List V}
theorem SqL.of {K : PySem.W.Frag} (h : H a = some (.lst xs)) : SqL K H a xs:=.inl (.inl h)
theorem SqT.of {K : PySem.W.Frag} (h : H a = some (.tup xs)) : SqT K H a xs:=.inl (.inl h)
theorem Inv.list (I : Inv X pins σ H s) (h : SqL X.K H a xs) : ∃ its : List Value,Vals xs its /\ PlainL s.heap a its.toArray /\ xs.length <= sizeLine:=by
  rcases h with h | ⟨o,its,n,hk,hc,hd,hs,hz,r⟩
  · obtain ⟨z,its,n,r,e⟩:=h.ok I.hok
    exact ⟨its,r,⟨_,n,e,rfl,rfl,rfl⟩,z⟩
  · refine ⟨its.toList,r,⟨o,n,I.kIn a o hk,hc,hd,by simpa using hs⟩,?_⟩
    have e:=r.length
    simp only [Array.length_toList] at e
    omega
theorem Inv.tuple (I : Inv X pins σ H s) (h : SqT X.K H a xs) : ∃ its : List Value,Vals xs its /\ IsTup s.heap a its.toArray /\ xs.length <= sizeLine:=by
  rcases h with h | ⟨o,its,n,hk,hc,hs,hz,r⟩
  · obtain ⟨z,its,r,p⟩:=h.ok I.hok
    exact ⟨its,r,p,z⟩
  · refine ⟨its.toList,r,⟨o,I.kIn a o hk,hc,n,by simpa using hs⟩,?_⟩
    have e:=r.length
    simp only [Array.length_toList] at e
    omega
theorem Inv.list_inj (I : Inv X pins σ H s) (h : SqL X.K H a xs) (h' : SqL X.K H a ys) : xs = ys:=by
  obtain ⟨its,r,⟨o,n,e,_,_,d⟩,_⟩:=I.list h
  obtain ⟨its',r',⟨o',n',e',_,_,d'⟩,_⟩:=I.list h'
  rw [e] at e'; cases e'
  rw [d] at d'
  injection d' with d1 _
  have : its = its':=by simpa using congrArg Array.toList d1
  subst this
  exact r.inj r'
theorem Inv.tuple_inj (I : Inv X pins σ H s) (h : SqT X.K H a xs) (h' : SqT X.K H a ys) : xs = ys:=by
  obtain ⟨its,r,⟨o,e,_,n,d⟩,_⟩:=I.tuple h
  obtain ⟨its',r',⟨o',e',_,n',d'⟩,_⟩:=I.tuple h'
  rw [e] at e'; cases e'
  rw [d] at d'
  injection d' with d1 _
  have : its = its':=by simpa using congrArg Array.toList d1
  subst this
  exact r.inj r'
end
abbrev Cx.wish (X : Cx) (E : Value -> Shared -> Prop) : Cx:={ X with xe:=E }
abbrev Cx.nox (X : Cx) : Cx:=X.wish fun _ _=>False
theorem Cx.Ok.wish {X : Cx} (ok : X.Ok) (E : Value -> Shared -> Prop) : (X.wish E).Ok:=
  ⟨ok.mod,ok.kind,ok.glob,ok.blt,ok.above,ok.inj,ok.has,ok.cab,ok.hd,ok.frames,ok.stk,ok.exf,ok.bs,ok.bsz,ok.noex,ok.exfs,ok.funs,ok.frf⟩
theorem Cx.Ok.unwish {X : Cx} {E : Value -> Shared -> Prop} (ok : (X.wish E).Ok) : X.Ok:=
  ⟨ok.mod,ok.kind,ok.glob,ok.blt,ok.above,ok.inj,ok.has,ok.cab,ok.hd,ok.frames,ok.stk,ok.exf,ok.bs,ok.bsz,ok.noex,ok.exfs,ok.funs,ok.frf⟩
section
variable {X : Cx} {pins : List (Addr × Obj)} {σ : St} {H : Hp} {s : Shared} {E : Value -> Shared -> Prop}
theorem Inv.wish (I : Inv X pins σ H s) (E : Value -> Shared -> Prop) : Inv (X.wish E) pins σ H s:=⟨I.ok.wish E,I.os,I.bare,I.base,I.loc,I.cell,I.free,I.freeC,I.pin,I.hok,I.len⟩
theorem Inv.unwish (I : Inv (X.wish E) pins σ H s) : Inv X pins σ H s:=⟨I.ok.unwish,I.os,I.bare,I.base,I.loc,I.cell,I.free,I.freeC,I.pin,I.hok,I.len⟩
theorem SP.unwish {D : Ends} {f : Flow} {s' : Shared} (h : SP (X.wish E) pins D f s') : SP X pins D f s':=by
  cases f with
  | next=>obtain ⟨σ',H',I,q⟩:=h; exact ⟨σ',H',I.unwish,q⟩
  | brk=>obtain ⟨σ',H',I,q⟩:=h; exact ⟨σ',H',I.unwish,q⟩
  | cont=>obtain ⟨σ',H',I,q⟩:=h; exact ⟨σ',H',I.unwish,q⟩
  | ret u=>obtain ⟨v,σ',H',I,r,q⟩:=h; exact ⟨v,σ',H',I.unwish,r,q⟩
theorem PSs.nox {st : List Stmt} {t : TS} (h : PSs X.nox st t) : PSs X st t:=fun pins s σ H D I hw=>
  wpAny_mono (h pins s σ H D (I.wish _) hw) (fun _ _ q=>q.unwish) fun _ _ z=>False.elim z
end
section
variable {X : Cx} {st : Stmt} {rest : List Stmt} {t u : TS} {e : Expr} {te : TE} {pos : Pos}
def tNext : TS:=fun D σ H=>D.nx σ H
def tSeq (t u : TS) : TS:=fun D σ H=>t { D with nx:=u D } σ H
theorem pss_nil : PSs X [] tNext:=fun _ _ σ H _ I h=>wpAny_execs_nil ⟨σ,H,I,h⟩
theorem pss_cons (h1 : PS X st t) (h2 : PSs X rest u) : PSs X (st :: rest) (tSeq t u):=by
  intro pins s σ H D I h
  refine wpAny_execs_cons (thn (h1 pins s σ H { D with nx:=u D } I h) fun f s1 q=>?_)
  cases f with
  | next=>
    obtain ⟨σ',H',I',q⟩:=q
    exact h2 pins s1 σ' H' D I' q
  | ret v=>exact q
  | brk=>exact q
  | cont=>exact q
theorem pss_one (h1 : PS X st t) : PSs X [st] t:=by
  intro pins s σ H D I h
  refine wpAny_execs_cons (thn (h1 pins s σ H D I h) fun f s1 q=>?_)
  cases f with
  | next=>exact wpAny_execs_nil q
  | ret v=>exact q
  | brk=>exact q
  | cont=>exact q
theorem Inv.quiet {pins : List (Addr × Obj)} {σ : St} {H : Hp} {s : Shared} (I : Inv X pins σ H s) : interactive X.env = false:=by simp [interactive,I.ok.kind]
def tDrop (te : TE) : TS:=fun D σ H=>te σ H fun _ H1=>D.nx σ H1
theorem ps_expr (he : PE X e te) (hs : swapsWith e none pos.line X.env = pure false:=by rfl) : PS X (.Expr e pos) (tDrop te):=by
  intro pins s σ H D I h
  exact wpAny_Expr_any (thn (he pins s σ H _ I h) fun v s1 ⟨x,H1,I1,r1,q1⟩=>⟨σ,H1,I1,q1⟩) I.quiet hs
def tRet (te : TE) : TS:=fun D σ H=>te σ H D.rt
theorem ps_ret (he : PE X e te) : PS X (.Return (some e) pos) (tRet te):=by
  intro pins s σ H D I h
  exact wpAny_Return_some (thn (he pins s σ H _ I h) fun v s1 ⟨x,H1,I1,r1,q1⟩=>⟨x,σ,H1,I1,r1,q1⟩)
def tIfS (c : TT) (t u : TS) : TS:=fun D σ H=>c σ H fun b H1=>if b = true then t D σ H1 else u D σ H1
theorem ps_if {c : Expr} {a b : List Stmt} {tc : TT} (hc : PT X c tc) (ha : PSs X a t) (hb : PSs X b u) : PS X (.If c a b pos) (tIfS tc t u):=by
  intro pins s σ H D I h
  refine wpAny_If (thn (hc pins s σ H _ I h) fun d s1 ⟨H1,I1,q1⟩=>?_)
  cases d with
  | true=>exact ha pins s1 σ H1 D I1 q1
  | false=>exact hb pins s1 σ H1 D I1 q1
end
abbrev TG:=V -> St -> Hp -> (St -> Hp -> Prop) -> Prop
abbrev TGs:=List V -> St -> Hp -> (St -> Hp -> Prop) -> Prop
def PG (X : Cx) (target : Expr) (t : TG) : Prop:=
  ∀ (pins : List (Addr × Obj)) (s : Shared) (σ : St) (H : Hp) (v : V) (u : Value) (Q : St -> Hp -> Prop),Inv X pins σ H s -> RelV v u -> t v σ H Q ->
    wpAny (model X.prog X.w) X.A (assign target X.env u) (fun _ s'=>∃ σ' H',Inv X pins σ' H' s' /\ Q σ' H') X.xe s
abbrev TSet:=V -> V -> V -> Hp -> (Hp -> Prop) -> Prop
def PSet (X : Cx) (t : TSet) : Prop:=
  ∀ (pins : List (Addr × Obj)) (s : Shared) (σ : St) (H : Hp) (o i v : V) (ov iv u : Value) (Q : Hp -> Prop),Inv X pins σ H s -> RelV o ov -> RelV i iv -> RelV v u -> t o i v H Q ->
    wpAny (model X.prog X.w) X.A (setItem ov iv u) (fun _ s'=>∃ H',Inv X pins σ H' s' /\ Q H') X.xe s
section
variable {X : Cx} {pos : Pos}
def gName (i : Nat) : TG:=fun v σ H Q=>Q (σ.set i (some v)) H
theorem pg_name {i : Nat} {x : Str} (hN : X.N.Nodup) (hi : X.N[i]? = some x) (hx : Loc X.env.scope x) (hf : X.fn x = true \/ X.env.scope.names.lookup x = some .local:=by first | exact .inl rfl | exact .inr rfl | assumption) : PG X (.Name x pos) (gName i):=by
  intro pins s σ H v u Q I r h
  exact wpAny_assign_Name (store_ok I hN hi hx r (fun s' I'=>⟨_,H,I',h⟩) hf)
def gNil : TGs:=fun vs σ H Q=>vs = [] /\ Q σ H
def gCons (t : TG) (u : TGs) : TGs:=fun vs σ H Q=>∃ v r,vs = v :: r /\ t v σ H fun σ' H'=>u r σ' H' Q
def gTup (K : PySem.W.Frag) (n : Nat) (t : TGs) : TG:=fun v σ H Q=>∃ a xs,v = .ref a /\ SqT K H a xs /\ xs.length = n /\ t xs σ H Q
def gSub (to ti : TE) (t : TSet) : TG:=fun v σ H Q=>to σ H fun o H1=>ti σ H1 fun i H2=>t o i v H2 fun H3=>Q σ H3
theorem pg_sub {o i : Expr} {to ti : TE} {t : TSet} (ho : PE X o to) (hi : PE X i ti) (hs : PSet X t)
    (ha : ∀ v,assign (.Subscript o i pos) X.env v = (do
      let ov <- holding [v] (eval o X.env)
      let iv <- holding [v,ov] (eval i X.env)
      standAt pos
      holding [v,ov,iv] (setItem ov iv v)
      release [v,ov,iv] []):=by intro _; rfl) : PG X (.Subscript o i pos) (gSub to ti t):=by
  intro pins s σ H v u Q I r h
  rw [ha]
  refine wpAny_bind (wpAny_holding (thn (ho pins s σ H _ I h) fun ov s1 ⟨x,H1,I1,r1,q1⟩=>?_))
  refine wpAny_bind (wpAny_holding (thn (hi pins s1 σ H1 _ I1 q1) fun iv s2 ⟨y,H2,I2,r2,q2⟩=>?_))
  refine wpAny_bind (wpAny_standAt (wpAny_bind (wpAny_holding (thn (hs pins s2 σ H2 x y v ov iv u _ I2 r1 r2 r q2) fun _ s3 ⟨H3,I3,q3⟩=>?_))))
  exact wpAny_release ⟨σ,H3,I3,q3⟩
def tAsg (te : TE) (g : TG) : TS:=fun D σ H=>te σ H fun x H1=>g x σ H1 D.nx
theorem ps_asg {tg e : Expr} {te : TE} {g : TG} (he : PE X e te) (hg : PG X tg g) (hs : swapsWithSole [tg] e pos.line X.env = pure false:=by rfl) (hw : swappedStores [tg] e X.env = pure none:=by rfl)
    (h1 : (assignEach [tg] X.env).map (·.2) = [assign tg X.env]:=by rfl) : PS X (.Assign [tg] e pos) (tAsg te g):=by
  intro pins s σ H D I h
  refine wpAny_Assign_stores (thn (he pins s σ H _ I h) fun v s1 ⟨x,H1,I1,r1,q1⟩=>?_) hs hw
  rw [h1]
  exact thn (hg pins s1 σ H1 x v _ I1 r1 q1) fun _ s2 q=>q
theorem ps_set {i : Nat} {x : Str} {e : Expr} {te : TE} {pos' : Pos} (hN : X.N.Nodup) (hi : X.N[i]? = some x) (hx : Loc X.env.scope x) (he : PE X e te) (hs : swapsWith e (some (.Name x pos')) pos.line X.env = pure false:=by rfl) (hf : X.fn x = true \/ X.env.scope.names.lookup x = some .local:=by first | exact .inl rfl | exact .inr rfl | assumption) :
    PS X (.Assign [.Name x pos'] e pos) (tAsg te (gName i)):=by
  intro pins s σ H D I h
  refine wpAny_Assign_Name (thn (he pins s σ H _ I h) fun v s1 ⟨y,H1,I1,r1,q1⟩=>?_) hs
  exact store_ok I1 hN hi hx r1 (fun s2 I2=>⟨_,H1,I2,q1⟩) hf
end
section
variable {X : Cx} {pos : Pos}
end
structure It where
  go : Nat -> Hp -> Prop
  yld : Nat -> Hp -> V -> Hp -> Prop
  stop : Nat -> Hp -> Prop
def FpOk (X : Cx) (pins : List (Addr × Obj)) (H : Hp) (b : Addr) : Prop:=
  H b = none /\ b ≠ X.env.locals /\ b ∉ X.fs /\ (b ∈ X.ex \/ X.s₀.heap.objs.size <= b) /\ (∀ x c,X.env.cells.lookup x = some c -> c ≠ b) /\ ∀ p ∈ X.pn ++ pins,p.1 ≠ b
theorem Inv.fpOk {X : Cx} {pins : List (Addr × Obj)} {σ : St} {H H' : Hp} {s : Shared} {b : Addr} (I : Inv X pins σ H s) (hb : s.heap.objs.size <= b) (hn : H' b = none) : FpOk X pins H' b:=by
  refine ⟨hn,Nat.ne_of_gt (Nat.lt_of_lt_of_le I.lt hb),I.nofs hb,.inr (Nat.le_trans I.sz hb),fun x c e z=>?_,fun p hp z=>?_⟩
  · obtain ⟨v,q⟩:=I.cell x c e
    exact absurd (Nat.lt_of_lt_of_le q.lt (by rw [z]; exact hb)) (Nat.lt_irrefl _)
  · exact absurd (Nat.lt_of_lt_of_le (Heap.lt_size (I.pin p hp).1) (by rw [z]; exact hb)) (Nat.lt_irrefl _)
structure Turn (P : Program) (w : World) (K : PySem.W.Frag) (tg : Expr) (J : It) (fp : List Addr) (it : Addr) (tn : Nat -> Heap -> Prop) : Prop where
  mem : it ∈ fp
  obj : ∀ i h,tn i h -> ∀ b ∈ fp,∃ o,h.get? b = some o /\ ∀ v,o.data ≠ .cell v
  keep : ∀ i h h',tn i h -> (∀ b ∈ fp,∀ o,h.get? b = some o -> h'.get? b = some o) -> tn i h'
  item : ∀ (X : Cx),X.prog = P -> X.w = w -> X.K = K -> X.calm = true -> ∀ (i : Nat) (pins : List (Addr × Obj)) (s : Shared) (σ : St) (H : Hp) (E : Value -> Shared -> Prop),Inv X pins σ H s -> (∀ b ∈ fp,FpOk X pins H b) -> tn i s.heap -> J.go i H ->
    wpAny (model P w) X.A (pyNext (.ref it)) (fun r s1=>∃ u,r = some u /\
      wpAny (model P w) X.A (letOwnedTupleGo tg (.ref it) u) (fun _ s2=>∃ x H',Inv X pins σ H' s2 /\ RelV x u /\ J.yld i H x H' /\ tn (i + 1) s2.heap /\ ∀ b ∈ fp,H' b = none) E s1) E s
  done : ∀ (X : Cx),X.prog = P -> X.w = w -> X.K = K -> X.calm = true -> ∀ (i : Nat) (pins : List (Addr × Obj)) (s : Shared) (σ : St) (H : Hp) (E : Value -> Shared -> Prop),Inv X pins σ H s -> (∀ b ∈ fp,FpOk X pins H b) -> tn i s.heap -> J.stop i H ->
    wpAny (model P w) X.A (pyNext (.ref it)) (fun r s1=>r = none /\ Inv X pins σ H s1) E s
  self : ∀ (A : Around) (i : Nat) (s : Shared) (Q : Value -> Shared -> Prop) (E : Value -> Shared -> Prop),tn i s.heap -> Q (.ref it) s -> wpAny (model P w) A (pyIter (.ref it)) Q E s
abbrev TI:=St -> Hp -> (It -> Hp -> Prop) -> Prop
def PIE (X : Cx) (pins : List (Addr × Obj)) (σ : St) (tg : Expr) (R : It -> Hp -> Prop) (itv : Value) (s2 : Shared) : Prop:=
  ∃ (it : Addr) (fp : List Addr) (tn : Nat -> Heap -> Prop) (J : It) (H' : Hp),itv = .ref it /\ Inv X pins σ H' s2 /\ Turn X.prog X.w X.K tg J fp it tn /\ tn 0 s2.heap /\ (∀ b ∈ fp,FpOk X pins H' b) /\ R J H'
def PI (X : Cx) (tg iter : Expr) (wi : TI) : Prop:=
  ∀ (pins : List (Addr × Obj)) (s : Shared) (σ : St) (H : Hp) (R : It -> Hp -> Prop),Inv X pins σ H s -> wi σ H R ->
    wpAny (model X.prog X.w) X.A (eval iter X.env) (fun v s1=>wpAny (model X.prog X.w) X.A (pyIter v) (PIE X pins σ tg R) X.xe s1) X.xe s
theorem go_of {M : Model} {A : Around} {E : Value -> Shared -> Prop} {s : Shared} {tg : Expr} {it : Addr} {u : Value} {o : Obj} {n : String} {vs : Array Value} {Q : Unit -> Shared -> Prop} (ho : s.heap.get? it = some o) (hc : o.cls = .type n) (hd : o.data = .fields vs)
    (hn : ["enumerate", "zip", "dict_itemiterator", "dict_reverseitemiterator", "odict_iterator", "itertools.zip_longest", "itertools.pairwise"].contains n = false) (hQ : Q () s) : wpAny M A (letOwnedTupleGo tg (.ref it) u) Q E s:=by
  unfold letOwnedTupleGo
  cases tg <;> first
    | exact wpAny_pure hQ
    | (cases u <;> first
        | exact wpAny_pure hQ
        | (refine wpAny_bind (wpAny_load ho ?_)
           rw [hc,hd]
           show wpAny M A (if (["enumerate", "zip", "dict_itemiterator", "dict_reverseitemiterator", "odict_iterator", "itertools.zip_longest", "itertools.pairwise"].contains n && vs[0]? == some (rawInt _)) = true then _ else _) Q E s
           rw [if_neg (by intro h; rw [hn,Bool.false_and] at h; cases h)]
           exact wpAny_pure hQ))
def Itl (K : PySem.W.Frag) (a : Addr) : It:=
  ⟨fun i H=>∃ xs x,SqL K H a xs /\ xs[i]? = some x,fun i H x H'=>H' = H /\ ∀ xs,SqL K H a xs -> xs[i]? = some x,fun i H=>∃ xs,SqL K H a xs /\ xs.length <= i⟩
def Itt (K : PySem.W.Frag) (a : Addr) : It:=
  ⟨fun i H=>∃ xs x,SqT K H a xs /\ xs[i]? = some x,fun i H x H'=>H' = H /\ ∀ xs,SqT K H a xs -> xs[i]? = some x,fun i H=>∃ xs,SqT K H a xs /\ xs.length <= i⟩
def Itr (lo : Int) (n : Nat) : It:=⟨fun i _=>i < n,fun i H x H'=>H' = H /\ x = .int (lo + i),fun i _=>n <= i⟩
theorem turn_list {P : Program} {w : World} {K : PySem.W.Frag} {tg : Expr} (a it : Addr) : Turn P w K tg (Itl K a) [it] it (fun i h=>h.IsListIter it a i) where
  mem:=by simp
  obj:=fun i h st b hb=>by
    have e : b = it:=by simpa using hb
    subst e
    obtain ⟨o,e,c,d⟩:=st
    exact ⟨o,e,fun v z=>by rw [d] at z; cases z⟩
  keep:=fun i h h' st k=>st.at fun o e=>k it (by simp) o e
  item:=by
    intro X hP hw hK hc i pins s σ H E I hf st hg
    subst hP hw hK
    obtain ⟨xs,x,hq,hx⟩:=hg
    obtain ⟨its,rv,p,hz⟩:=I.list hq
    obtain ⟨u,hu,ru⟩:=rv.get hx
    obtain ⟨f0,f1,f2,f3,f4,f5⟩:=hf it (by simp)
    refine wpAny_pyNext_list_item st p.isList (x:=u) (by simpa using hu) fun h' st' sb=>?_
    have I1 : Inv X pins σ H { s with heap:=h' }:=I.turned (t':=s.toks) (fun b o hb e=>(sb.2 b hb).trans e) f0 f1 f3 f4 f5
    obtain ⟨o,e,c,d⟩:=id st'
    exact ⟨u,rfl,go_of (s:={ s with heap:=h' }) e c d (by decide) ⟨x,H,I1,ru,⟨rfl,fun ys hy=>by rw [I.list_inj hy hq]; exact hx⟩,st',fun b hb=>(hf b hb).1⟩⟩
  done:=by
    intro X hP hw hK hc i pins s σ H E I hf st hg
    subst hP hw hK
    obtain ⟨xs,hq,hx⟩:=hg
    obtain ⟨its,rv,p,hz⟩:=I.list hq
    obtain ⟨f0,f1,f2,f3,f4,f5⟩:=hf it (by simp)
    have hl:=rv.length
    exact wpAny_pyNext_list_end (I.ok.hd hc) st p.isList (by simp; omega) fun h' eb=>⟨rfl,I.turned (t':=s.toks) (fun b o hb e=>eb b o hb e) f0 f1 f3 f4 f5⟩
  self:=fun _ _ _ _ _ st h=>wpAny_pyIter_listiter st h
theorem turn_tuple {P : Program} {w : World} {K : PySem.W.Frag} {tg : Expr} (a it : Addr) : Turn P w K tg (Itt K a) [it] it (fun i h=>h.IsTupleIter it a i) where
  mem:=by simp
  obj:=fun i h st b hb=>by
    have e : b = it:=by simpa using hb
    subst e
    obtain ⟨o,e,c,d⟩:=st
    exact ⟨o,e,fun v z=>by rw [d] at z; cases z⟩
  keep:=fun i h h' st k=>st.at fun o e=>k it (by simp) o e
  item:=by
    intro X hP hw hK hc i pins s σ H E I hf st hg
    subst hP hw hK
    obtain ⟨xs,x,hq,hx⟩:=hg
    obtain ⟨its,rv,p,hz⟩:=I.tuple hq
    obtain ⟨u,hu,ru⟩:=rv.get hx
    obtain ⟨f0,f1,f2,f3,f4,f5⟩:=hf it (by simp)
    refine wpAny_pyNext_tuple_item st (show s.heap.IsTuple a its.toArray from p) (x:=u) (by simpa using hu) fun h' st' sb=>?_
    have I1 : Inv X pins σ H { s with heap:=h' }:=I.turned (t':=s.toks) (fun b o hb e=>(sb.2 b hb).trans e) f0 f1 f3 f4 f5
    obtain ⟨o,e,c,d⟩:=id st'
    exact ⟨u,rfl,go_of (s:={ s with heap:=h' }) e c d (by decide) ⟨x,H,I1,ru,⟨rfl,fun ys hy=>by rw [I.tuple_inj hy hq]; exact hx⟩,st',fun b hb=>(hf b hb).1⟩⟩
  done:=by
    intro X hP hw hK hc i pins s σ H E I hf st hg
    subst hP hw hK
    obtain ⟨xs,hq,hx⟩:=hg
    obtain ⟨its,rv,p,hz⟩:=I.tuple hq
    obtain ⟨f0,f1,f2,f3,f4,f5⟩:=hf it (by simp)
    have hl:=rv.length
    exact wpAny_pyNext_tuple_end (I.ok.hd hc) st (show s.heap.IsTuple a its.toArray from p) (by simp; omega) fun h' eb=>⟨rfl,I.turned (t':=s.toks) (fun b o hb e=>eb b o hb e) f0 f1 f3 f4 f5⟩
  self:=fun _ _ _ _ _ st h=>wpAny_pyIter_tupleiter st h
theorem turn_range {P : Program} {w : World} {K : PySem.W.Frag} {tg : Expr} (it : Addr) (lo : Int) (n : Nat) : Turn P w K tg (Itr lo n) [it] it (fun i h=>IsRangeIter h it (lo + (i : Nat) * 1) ((n : Int) - (i : Nat)) 1) where
  mem:=by simp
  obj:=fun i h st b hb=>by
    have e : b = it:=by simpa using hb
    subst e
    exact ⟨_,st,fun v z=>by
      have z' : Data.fields _ = Data.cell v:=z
      cases z'⟩
  keep:=fun i h h' st k=>k it (by simp) _ st
  item:=by
    intro X hP hw hK hc i pins s σ H E I hf st hg
    subst hP hw hK
    obtain ⟨f0,f1,f2,f3,f4,f5⟩:=hf it (by simp)
    have W:=Walks.range (prog:=X.prog) (w:=X.w) (I.ok.hd hc) it lo 1 n
    refine W.item i s _ _ hg st fun v h' tk hv st' kk=>?_
    obtain ⟨t,rfl⟩:=hv
    have I1 : Inv X pins σ H { s with heap:=h',toks:=tk }:=I.turned (fun b o hb e=>kk b o (by simpa using hb) e) f0 f1 f3 f4 f5
    refine ⟨_,rfl,go_of (s:={ s with heap:=h',toks:=tk }) (n := "range_iterator") st' rfl rfl (by decide) ⟨.int (lo + i),H,I1,⟨t,?_⟩,⟨rfl,rfl⟩,st',fun b hb=>(hf b hb).1⟩⟩
    rw [Int.mul_one]
  done:=by
    intro X hP hw hK hc i pins s σ H E I hf st hg
    subst hP hw hK
    obtain ⟨f0,f1,f2,f3,f4,f5⟩:=hf it (by simp)
    exact wpAny_pyNext_range_end (I.ok.hd hc) st (by have : n <= i:=hg; omega) fun h' eb=>⟨rfl,I.turned (t':=s.toks) (fun b o hb e=>eb b o hb e) f0 f1 f3 f4 f5⟩
  self:=fun _ _ _ _ _ st h=>wpAny_pyIter_rangeiter st h
end L2
namespace L2
open PySem PySem.Spec PyProof.Rows
section
variable {X : Cx} {tg : Expr}
def iList (K : PySem.W.Frag) (tl : TE) : TI:=fun σ H R=>tl σ H fun x H1=>∃ a,x = .ref a /\ (∃ xs,SqL K H1 a xs) /\ R (Itl K a) H1
def iTup (K : PySem.W.Frag) (tl : TE) : TI:=fun σ H R=>tl σ H fun x H1=>∃ a,x = .ref a /\ (∃ xs,SqT K H1 a xs) /\ R (Itt K a) H1
theorem pi_list {l : Expr} {tl : TE} (hl : PE X l tl) : PI X tg l (iList X.K tl):=by
  intro pins s σ H R I h
  refine thn (hl pins s σ H _ I h) fun v s1 ⟨x,H1,I1,r1,q1⟩=>?_
  obtain ⟨a,e,⟨xs,hq⟩,q⟩:=q1
  subst e
  cases r1
  obtain ⟨its,rv,p,hz⟩:=I1.list hq
  refine wpAny_pyIter_list p.isList ?_
  refine ⟨s1.heap.objs.size,[s1.heap.objs.size],_,_,H1,rfl,I1.kept (t':=s1.toks) fun b o e=>Heap.get?_push_of_some _ e,turn_list a _,⟨_,Heap.get?_push_size _ rfl,rfl,rfl⟩,fun b hb=>?_,q⟩
  have e : b = s1.heap.objs.size:=by simpa using hb
  subst e
  exact I1.fpOk (Nat.le_refl _) (I1.hok.fresh (Nat.le_refl _))
theorem pi_tup {l : Expr} {tl : TE} (hl : PE X l tl) : PI X tg l (iTup X.K tl):=by
  intro pins s σ H R I h
  refine thn (hl pins s σ H _ I h) fun v s1 ⟨x,H1,I1,r1,q1⟩=>?_
  obtain ⟨a,e,⟨xs,hq⟩,q⟩:=q1
  subst e
  cases r1
  obtain ⟨its,rv,p,hz⟩:=I1.tuple hq
  refine wpAny_pyIter_tuple (show s1.heap.IsTuple a its.toArray from p) ?_
  refine ⟨s1.heap.objs.size,[s1.heap.objs.size],_,_,H1,rfl,I1.kept (t':=s1.toks) fun b o e=>Heap.get?_push_of_some _ e,turn_tuple a _,⟨_,Heap.get?_push_size _ rfl,rfl,rfl⟩,fun b hb=>?_,q⟩
  have e : b = s1.heap.objs.size:=by simpa using hb
  subst e
  exact I1.fpOk (Nat.le_refl _) (I1.hok.fresh (Nat.le_refl _))
theorem range_it {pins : List (Addr × Obj)} {σ : St} {H : Hp} {s : Shared} {R : It -> Hp -> Prop} {E : Value -> Shared -> Prop} {lo hi : Int} {t u v : Tok} {tk : Nat} (I : Inv X pins σ H s) (h1 : -(2 ^ 62) <= lo) (h2 : lo < 2 ^ 62) (h3 : -(2 ^ 62) <= hi) (h4 : hi < 2 ^ 62)
    (q : R (Itr lo (hi - lo).toNat) H) : wpAny (model X.prog X.w) X.A (pyIter (.ref s.heap.objs.size)) (PIE X pins σ tg R) E { s with heap:=s.heap.push { cls:=.type "range",data:=.fields #[.int lo t,.int hi u,.int 1 v] },toks:=tk }:=by
  refine wpAny_pyIter_range (IsRange.new ..) (small_one h1 h2 h3 h4) ?_
  have I1 : Inv X pins σ H { s with heap:=s.heap.push { cls:=.type "range",data:=.fields #[.int lo t,.int hi u,.int 1 v] },toks:=tk }:=I.kept fun b o e=>Heap.get?_push_of_some _ e
  refine ⟨(s.heap.push { cls:=.type "range",data:=.fields #[.int lo t,.int hi u,.int 1 v] }).objs.size,[(s.heap.push { cls:=.type "range",data:=.fields #[.int lo t,.int hi u,.int 1 v] }).objs.size],_,_,H,rfl,
    I1.kept (t':=tk) fun b o e=>Heap.get?_push_of_some _ e,turn_range _ lo (hi - lo).toNat,?_,fun b hb=>?_,q⟩
  · have e1 : lo + ((0 : Nat) : Int) * 1 = lo:=by simp
    have e2 : (((hi - lo).toNat : Nat) : Int) - ((0 : Nat) : Int) = Builtin.Range.rangeSize lo hi 1:=by rw [rangeSize_one]; split <;> omega
    show IsRangeIter _ _ (lo + ((0 : Nat) : Int) * 1) ((((hi - lo).toNat : Nat) : Int) - ((0 : Nat) : Int)) 1
    rw [e1,e2]
    exact Heap.get?_push_size _ rfl
  · have e : b = (s.heap.push { cls:=.type "range",data:=.fields #[.int lo t,.int hi u,.int 1 v] }).objs.size:=by simpa using hb
    subst e
    exact I1.fpOk (Nat.le_refl _) (I1.hok.fresh (Nat.le_refl _))
def iRng1 (ta : TA) : TI:=fun σ H R=>ta σ H fun vs H1=>∃ j : Int,vs = [.int j] /\ -(2 ^ 62) <= j /\ j < 2 ^ 62 /\ R (Itr 0 j.toNat) H1
def iRng2 (ta : TA) : TI:=fun σ H R=>ta σ H fun vs H1=>∃ i j : Int,vs = [.int i,.int j] /\ (-(2 ^ 62) <= i /\ i < 2 ^ 62 /\ -(2 ^ 62) <= j /\ j < 2 ^ 62) /\ R (Itr i (j - i).toNat) H1
theorem pi_range1 {a : Expr} {ta : TA} {p pos : Pos} (hg : Gl X "range") (hm : X.mg "range" = none) (ha : PA X [a] ta) (hs : starEach [a] X.env = [(false,eval a X.env)]:=by rfl) : PI X tg (.Call (.Name "range" p) [a] [] pos) (iRng1 ta):=by
  intro pins s σ H R I h
  refine Call_ (ld_blt I hg hm boot_range (PyProof.Rows.callWith_type1 (thn (ha pos pins s σ H _ I h) fun us s1 ⟨vs,H1,I1,r1,q1⟩=>?_) hs rfl))
  obtain ⟨j,e,q1,q2,q⟩:=q1
  subst e
  cases r1 with
  | cons r rr=>
    cases rr
    obtain ⟨t,rfl⟩:=r
    exact call_range_1 (range_it I1 (by omega) (by omega) q1 q2 (by simpa using q))
theorem pi_range2 {a b : Expr} {ta : TA} {p pos : Pos} (hg : Gl X "range") (hm : X.mg "range" = none) (ha : PA X [a,b] ta) (hs : starEach [a,b] X.env = [(false,eval a X.env),(false,eval b X.env)]:=by rfl) (hs2 : starEach [b] X.env = [(false,eval b X.env)]:=by rfl) :
    PI X tg (.Call (.Name "range" p) [a,b] [] pos) (iRng2 ta):=by
  intro pins s σ H R I h
  refine Call_ (ld_blt I hg hm boot_range (PyProof.Rows.callWith_type1 (thn (ha pos pins s σ H _ I h) fun us s1 ⟨vs,H1,I1,r1,q1⟩=>?_) (by rw [hs,hs2]) (by rw [hs2]; rfl)))
  obtain ⟨i,j,e,⟨q1,q2,q3,q4⟩,q⟩:=q1
  subst e
  cases r1 with
  | cons r rr=>
    cases rr with
    | cons r' rr=>
      cases rr
      obtain ⟨t,rfl⟩:=r
      obtain ⟨t',rfl⟩:=r'
      exact call_range_2 (range_it I1 q1 q2 q3 q4 q)
def tFor (wi : TI) (g : TG) (tb : TS) : TS:=fun D σ H=>wi σ H fun J H1=>∃ W : Nat -> Nat -> St -> Hp -> Prop,(∃ m,W 0 m σ H1) /\ ∀ i m σ H,W i m σ H ->
  (J.stop i H /\ D.nx σ H) \/ (J.go i H /\ ∃ N : St -> Hp -> Prop,(∀ σ' H',N σ' H' -> ∃ m',m' < m /\ W (i + 1) m' σ' H') /\ ∀ x H',J.yld i H x H' -> g x σ H' fun σ2 H2=>tb { D with nx:=N,ct:=N,bk:=D.nx } σ2 H2)
def pinsAt (fp : List Addr) (h : Heap) : List (Addr × Obj):=fp.filterMap fun b=>(h.get? b).map fun o=>(b,o)
theorem mem_pinsAt {fp : List Addr} {h : Heap} {b : Addr} {o : Obj} (hb : b ∈ fp) (e : h.get? b = some o) : (b,o) ∈ pinsAt fp h:=List.mem_filterMap.mpr ⟨b,hb,by rw [e]; rfl⟩
theorem of_pinsAt {fp : List Addr} {h : Heap} {p : Addr × Obj} (hp : p ∈ pinsAt fp h) : p.1 ∈ fp /\ h.get? p.1 = some p.2:=by
  obtain ⟨b,hb,e⟩:=List.mem_filterMap.mp hp
  cases q : h.get? b with
  | none=>rw [q] at e; cases e
  | some o=>
    rw [q] at e
    have e' : (b,o) = p:=Option.some.inj e
    subst e'
    exact ⟨hb,q⟩
theorem Inv.pinned {pins : List (Addr × Obj)} {σ : St} {H : Hp} {s : Shared} {fp : List Addr} (I : Inv X pins σ H s) (hf : ∀ b ∈ fp,FpOk X pins H b) (ho : ∀ b ∈ fp,∃ o,s.heap.get? b = some o /\ ∀ v,o.data ≠ .cell v) : Inv X (pins ++ pinsAt fp s.heap) σ H s:=
  I.pins_of fun p hp=>(List.mem_append.mp hp).elim (fun z=>I.pin p (List.mem_append_right _ z)) fun z=>by
    obtain ⟨hb,e⟩:=of_pinsAt z
    obtain ⟨f0,f1,f2,_⟩:=hf p.1 hb
    obtain ⟨o,e',d⟩:=ho p.1 hb
    rw [e] at e'; cases e'
    exact ⟨e,f0,f1,f2,d⟩
theorem Inv.unpinned {pins pl : List (Addr × Obj)} {σ : St} {H : Hp} {s : Shared} (I : Inv X (pins ++ pl) σ H s) : Inv X pins σ H s:=I.pins_of fun p hp=>I.pin p (List.mem_append_right _ (List.mem_append_left _ hp))
theorem ps_for {iter : Expr} {body : List Stmt} {wi : TI} {g : TG} {tb : TS} {pos : Pos} (hp : PassesOwn (model X.prog X.w) X.A X.env X.xe) (hc : X.calm = true) (hi : PI X tg iter wi) (hg : PG X tg g) (hb : PSs X body tb)
    (hs : ∀ x,foldedSetIterable iter X.env x = pure x:=by intro _; rfl) : PS X (.For tg iter body [] pos) (tFor wi g tb):=by
  intro pins s σ H D I h
  refine wpAny_For (thn (hi pins s σ H _ I h) fun v s1 h1=>thn h1 fun itv s2 h2=>?_) hs
  obtain ⟨it,fp,tn,J,H2,e,I2,T,st2,f2,W,⟨m0,w0⟩,turn⟩:=h2
  subst e
  have stat : ∀ {H' : Hp},(∀ b ∈ fp,H' b = none) -> ∀ b ∈ fp,FpOk X pins H' b:=fun hn b hb=>⟨hn b hb,(f2 b hb).2⟩
  refine codeAny_forLoop_any (fun n s'=>∃ i σ' H',Inv X pins σ' H' s' /\ tn i s'.heap /\ (∀ b ∈ fp,H' b = none) /\ W i n σ' H') ?_ m0 ⟨0,σ,H2,I2,st2,fun b hb=>(f2 b hb).1,w0⟩
  rintro n s3 ⟨i,σ3,H3,I3,st3,fr3,w3⟩
  rcases turn i n σ3 H3 w3 with ⟨stop,qn⟩ | ⟨go,N,hN,step⟩
  · refine wpAny_passesOwn hp (thn (T.done X rfl rfl rfl hc i pins s3 σ3 H3 X.xe I3 (stat fr3) st3 stop) fun r s4 ⟨hr,I4⟩=>?_)
    subst hr
    exact wpAny_execs_nil ⟨σ3,H3,I4,qn⟩
  · refine wpAny_passesOwn hp (thn (T.item X rfl rfl rfl hc i pins s3 σ3 H3 X.xe I3 (stat fr3) st3 go) fun r s4 ⟨u,hr,h4⟩=>?_)
    subst hr
    refine wpAny_passesOwn hp (thn h4 fun _ s5 ⟨x,H5,I5,r5,y5,st5,fr5⟩=>?_)
    have I5':=I5.pinned (stat fr5) (T.obj _ _ st5)
    refine wpAny_passesOwn hp (thn (hg _ s5 σ3 H5 x u _ I5' r5 (step x H5 y5)) fun _ s6 ⟨σ6,H6,I6,q6⟩=>?_)
    refine wpAny_passesOwn hp (thn (hb _ s6 σ6 H6 _ I6 q6) fun f s7 q7=>?_)
    have again : ∀ {σ7 : St} {H7 : Hp},Inv X (pins ++ pinsAt fp s5.heap) σ7 H7 s7 -> N σ7 H7 -> ∃ m,m < n /\ ∃ i σ' H',Inv X pins σ' H' s7 /\ tn i s7.heap /\ (∀ b ∈ fp,H' b = none) /\ W i m σ' H':=fun {σ7 H7} I7 n7=>by
      obtain ⟨m',hm,w7⟩:=hN σ7 H7 n7
      refine ⟨m',hm,i + 1,σ7,H7,I7.unpinned,T.keep _ _ _ st5 fun b hb o e=>(I7.pin (b,o) (List.mem_append_right _ (List.mem_append_right _ (mem_pinsAt hb e)))).1,fun b hb=>?_,w7⟩
      obtain ⟨o,e,d⟩:=T.obj _ _ st5 b hb
      exact (I7.pin (b,o) (List.mem_append_right _ (List.mem_append_right _ (mem_pinsAt hb e)))).2.1
    cases f with
    | next=>obtain ⟨σ7,H7,I7,n7⟩:=q7; exact again I7 n7
    | cont=>obtain ⟨σ7,H7,I7,n7⟩:=q7; exact again I7 n7
    | brk=>obtain ⟨σ7,H7,I7,q7⟩:=q7; exact ⟨σ7,H7,I7.unpinned,q7⟩
    | ret v=>obtain ⟨x7,σ7,H7,I7,r7,q7⟩:=q7; exact ⟨x7,σ7,H7,I7.unpinned,r7,q7⟩
end
end L2
namespace L2
open PySem PySem.Spec PyProof.Rows
abbrev R2:=V -> V -> Hp -> VK -> Prop
def OpR (X : Cx) (f : Value -> Value -> Sem Value) (r : R2) : Prop:=
  ∀ (pins : List (Addr × Obj)) (s : Shared) (σ : St) (H : Hp) (x y : V) (v u : Value) (Q : VK),Inv X pins σ H s -> RelV x v -> RelV y u -> r x y H Q ->
    wpAny (model X.prog X.w) X.A (f v u) (EP X pins σ Q) X.xe s
def UnR (X : Cx) (f : Value -> Sem Value) (r : V -> Hp -> VK -> Prop) : Prop:=
  ∀ (pins : List (Addr × Obj)) (s : Shared) (σ : St) (H : Hp) (x : V) (v : Value) (Q : VK),Inv X pins σ H s -> RelV x v -> r x H Q ->
    wpAny (model X.prog X.w) X.A (f v) (EP X pins σ Q) X.xe s
def CallR (X : Cx) (f : Value) (r : List V -> Hp -> VK -> Prop) : Prop:=
  ∀ (pins : List (Addr × Obj)) (s : Shared) (σ : St) (H : Hp) (xs : List V) (us : List Value) (Q : VK),Inv X pins σ H s -> Vals xs us -> r xs H Q ->
    wpAny (model X.prog X.w) X.A (call f us) (EP X pins σ Q) X.xe s
def tOp (r : R2) (ta tb : TE) : TE:=fun σ H Q=>ta σ H fun x H1=>tb σ H1 fun y H2=>r x y H2 Q
def tUn (r : V -> Hp -> VK -> Prop) (ta : TE) : TE:=fun σ H Q=>ta σ H fun x H1=>r x H1 Q
def rI (C : Int -> Int -> Prop) (g : Int -> Int -> V) : R2:=fun x y H Q=>∃ i j,x = .int i /\ y = .int j /\ C i j /\ Q (g i j) H
def rI0 (g : Int -> Int -> V) : R2:=fun x y H Q=>∃ i j,x = .int i /\ y = .int j /\ Q (g i j) H
def rU (g : Int -> V) : V -> Hp -> VK -> Prop:=fun x H Q=>∃ i,x = .int i /\ Q (g i) H
section
variable {X : Cx} {a b c : Expr} {ta tb tc : TE} {pos : Pos}
theorem binT (ha : PE X a ta) (hb : PE X b tb) {pins : List (Addr × Obj)} {s : Shared} {σ : St} {H : Hp} {R : V -> V -> Hp -> Prop} (I : Inv X pins σ H s)
    (h : ta σ H fun x H1=>tb σ H1 fun y H2=>R x y H2) {Q : Value -> Shared -> Prop} {f : Value -> Value -> Sem Value}
    (hf : ∀ v u s2 x y H2,Inv X pins σ H2 s2 -> RelV x v -> RelV y u -> R x y H2 -> wpAny (model X.prog X.w) X.A (f v u) Q X.xe s2) :
    wpAny (model X.prog X.w) X.A (eval a X.env) (fun v s₁=>wpAny (model X.prog X.w) X.A (eval b X.env) (fun u s₂=>wpAny (model X.prog X.w) X.A (f v u) Q X.xe s₂) X.xe s₁) X.xe s:=by
  refine thn (ha pins s σ H _ I h) fun v s1 ⟨x,H1,I1,r1,q1⟩=>?_
  refine thn (hb pins s1 σ H1 _ I1 q1) fun u s2 ⟨y,H2,I2,r2,q2⟩=>?_
  exact hf v u s2 x y H2 I2 r1 r2 q2
theorem pe_op {op : Operator} {r : R2} (ho : OpR X (binaryOp op) r) (ha : PE X a ta) (hb : PE X b tb) : PE X (.BinOp a op b pos) (tOp r ta tb):=by
  intro pins s σ H Q I h
  exact wpAny_BinOp (binT ha hb I h fun v u s2 x y H2 I2 rx ry q=>ho pins s2 σ H2 x y v u Q I2 rx ry q)
theorem pe_un {op : UnaryOp} {r : V -> Hp -> VK -> Prop} (ho : UnR X (unaryOp op) r) (ha : PE X a ta) : PE X (.UnaryOp op a pos) (tUn r ta):=by
  intro pins s σ H Q I h
  exact UnaryOp_ (thn (ha pins s σ H _ I h) fun v s1 ⟨x,H1,I1,r1,q1⟩=>ho pins s1 σ H1 x v Q I1 r1 q1)
theorem opI {f : Value -> Value -> Sem Value} {C : Int -> Int -> Prop} {g : Int -> Int -> Int}
    (rule : ∀ (i j : Int) (t u : Tok) (s : Shared) (Q : Value -> Shared -> Prop) (E : Value -> Shared -> Prop),C i j -> Q (.int (g i j) s.toks) { s with toks:=s.toks + 1 } -> wpAny (model X.prog X.w) X.A (f (.int i t) (.int j u)) Q E s) :
    OpR X f (rI C fun i j=>.int (g i j)):=by
  intro pins s σ H x y v u Q I rx ry h
  obtain ⟨i,j,rfl,rfl,hc,q⟩:=h
  obtain ⟨t,rfl⟩:=rx
  obtain ⟨t',rfl⟩:=ry
  exact rule i j t t' s _ _ hc ⟨.int (g i j),H,I.tok _,⟨_,rfl⟩,q⟩
theorem opI0 {f : Value -> Value -> Sem Value} {g : Int -> Int -> Int}
    (rule : ∀ (i j : Int) (t u : Tok) (s : Shared) (Q : Value -> Shared -> Prop) (E : Value -> Shared -> Prop),Q (.int (g i j) s.toks) { s with toks:=s.toks + 1 } -> wpAny (model X.prog X.w) X.A (f (.int i t) (.int j u)) Q E s) :
    OpR X f (rI0 fun i j=>.int (g i j)):=by
  intro pins s σ H x y v u Q I rx ry h
  obtain ⟨i,j,rfl,rfl,q⟩:=h
  obtain ⟨t,rfl⟩:=rx
  obtain ⟨t',rfl⟩:=ry
  exact rule i j t t' s _ _ ⟨.int (g i j),H,I.tok _,⟨_,rfl⟩,q⟩
theorem opB0 {f : Value -> Value -> Sem Value} {g : Int -> Int -> Bool}
    (rule : ∀ (i j : Int) (t u : Tok) (s : Shared) (Q : Value -> Shared -> Prop) (E : Value -> Shared -> Prop),Q (.bool (g i j)) s -> wpAny (model X.prog X.w) X.A (f (.int i t) (.int j u)) Q E s) :
    OpR X f (rI0 fun i j=>.bl (g i j)):=by
  intro pins s σ H x y v u Q I rx ry h
  obtain ⟨i,j,rfl,rfl,q⟩:=h
  obtain ⟨t,rfl⟩:=rx
  obtain ⟨t',rfl⟩:=ry
  exact rule i j t t' s _ _ ⟨.bl (g i j),H,I,rfl,q⟩
def CDiv (i j : Int) : Prop:=0 < j /\ j < 1073741824
def CPow (i j : Int) : Prop:=0 <= j /\ j <= 1000000 /\ i.natAbs < 2 ^ 64
def CMul (i j : Int) : Prop:=(-(2 ^ 64) < i /\ i < 2 ^ 64) \/ (-(2 ^ 64) < j /\ j < 2 ^ 64)
theorem CMul.ok {i j : Int} (h : CMul i j) : IntMulOk i j:=by
  rcases h with ⟨h1,h2⟩ | ⟨h1,h2⟩
  · exact .of_left (intBits_le_64 h1 h2)
  · exact .of_right (intBits_le_64 h1 h2)
theorem op_add : OpR X (binaryOp .Add) (rI0 fun i j=>.int (i + j)):=opI0 fun _ _ _ _ _ _ _ q=>add_int q
theorem op_sub : OpR X (binaryOp .Sub) (rI0 fun i j=>.int (i - j)):=opI0 fun _ _ _ _ _ _ _ q=>sub_int q
theorem op_mul : OpR X (binaryOp .Mult) (rI CMul fun i j=>.int (i * j)):=opI fun _ _ _ _ _ _ _ hc q=>mul_int q hc.ok
theorem op_fdiv : OpR X (binaryOp .FloorDiv) (rI CDiv fun i j=>.int (i / j)):=opI fun i j _ _ _ _ _ hc q=>by
  have h1 : (0 : Int) < j:=hc.1
  have h2 : j < 1073741824:=hc.2
  exact floordiv_int (by omega) (by rw [Int.fdiv_eq_ediv_of_nonneg i (by omega)]; exact q) (.inl (PyProof.noPylong_small (by omega)))
theorem op_mod : OpR X (binaryOp .Mod) (rI (fun _ j=>0 < j) fun i j=>.int (i % j)):=opI fun i j _ _ _ _ _ hc q=>by
  have h1 : (0 : Int) < j:=hc
  exact mod_int' (by omega) (by rw [Int.fmod_eq_emod_of_nonneg i (by omega)]; exact q)
theorem op_pow : OpR X (binaryOp .Pow) (rI CPow fun i j=>.int (i ^ j.toNat)):=opI fun _ _ _ _ _ _ _ hc q=>pow_int_small hc.1 hc.2.1 hc.2.2 q
theorem unI {f : Value -> Sem Value} {g : Int -> Int}
    (rule : ∀ (i : Int) (t : Tok) (s : Shared) (Q : Value -> Shared -> Prop) (E : Value -> Shared -> Prop),Q (.int (g i) s.toks) { s with toks:=s.toks + 1 } -> wpAny (model X.prog X.w) X.A (f (.int i t)) Q E s) :
    UnR X f (rU fun i=>.int (g i)):=by
  intro pins s σ H x v Q I rx h
  obtain ⟨i,rfl,q⟩:=h
  obtain ⟨t,rfl⟩:=rx
  exact rule i t s _ _ ⟨.int (g i),H,I.tok _,⟨_,rfl⟩,q⟩
theorem un_neg : UnR X (unaryOp .USub) (rU fun i=>.int (-i)):=unI fun _ _ _ _ _ q=>neg_int q
end
def scal : V -> V -> Bool
  | .non,.non=>true | .non,.int _=>true | .int _,.non=>true | .non,.bl _=>true | .bl _,.non=>true | .non,.str _=>true | .str _,.non=>true
  | .int _,.int _=>true | .bl _,.bl _=>true | .str _,.str _=>true | .byt _,.byt _=>true
  | .int _,.str _=>true | .str _,.int _=>true | .bl _,.str _=>true | .str _,.bl _=>true
  | _,_=>false
def rEq : R2:=fun x y H Q=>scal x y = true /\ Q (.bl (decide (x = y))) H
theorem dec_int {i j : Int} : decide (V.int i = V.int j) = (i == j):=by
  rw [Bool.eq_iff_iff]
  simp
theorem dec_bl {i j : Bool} : decide (V.bl i = V.bl j) = (i == j):=by
  rw [Bool.eq_iff_iff]
  simp
theorem dec_str {i j : Str} : decide (V.str i = V.str j) = (i == j):=by
  rw [Bool.eq_iff_iff]
  simp
theorem dec_byt {i j : Array UInt8} : decide (V.byt i = V.byt j) = (i.toList == j.toList):=by
  rw [Bool.eq_iff_iff]
  cases i
  cases j
  simp
section
variable {X : Cx} {a b c : Expr} {ta tb tc : TE} {pos : Pos}
theorem fin_bl {pins : List (Addr × Obj)} {σ : St} {H : Hp} {s : Shared} {Q : VK} {k k' : Bool} (I : Inv X pins σ H s) (q : Q (.bl k) H) (e : k = k') : EP X pins σ Q (.bool k') s:=by
  subst e
  exact ⟨.bl k,H,I,rfl,q⟩
theorem op_eq : OpR X (compareOp .Eq) rEq:=by
  intro pins s σ H x y v u Q I rx ry h
  obtain ⟨hs,q⟩:=h
  cases x with
  | non=>
    cases rx
    cases y with
    | non=>cases ry; exact PySem.EqNone.eq_none_none (fin_bl I q (by simp))
    | bl j=>cases ry; exact PySem.EqNone.eq_none_bool (fin_bl I q (by simp))
    | int j=>obtain ⟨t',rfl⟩:=ry; exact PySem.EqNone.eq_none_int (fin_bl I q (by simp))
    | str j=>obtain ⟨t',rfl⟩:=ry; exact PySem.EqNone.eq_none_str (fin_bl I q (by simp))
    | _=>exact absurd (show false = true from hs) Bool.false_ne_true
  | bl i=>
    cases rx
    cases y with
    | non=>cases ry; exact PySem.EqNone.eq_bool_none (fin_bl I q (by simp))
    | bl j=>cases ry; exact eq_bool (fin_bl I q dec_bl)
    | str j=>obtain ⟨t',rfl⟩:=ry; exact PySem.EqMixed.eq_bool_str (fin_bl I q (by simp))
    | _=>exact absurd (show false = true from hs) Bool.false_ne_true
  | int i=>
    obtain ⟨t,rfl⟩:=rx
    cases y with
    | non=>cases ry; exact PySem.EqNone.eq_int_none (fin_bl I q (by simp))
    | int j=>obtain ⟨t',rfl⟩:=ry; exact eq_int (fin_bl I q dec_int)
    | str j=>obtain ⟨t',rfl⟩:=ry; exact PySem.EqMixed.eq_int_str (fin_bl I q (by simp))
    | _=>exact absurd (show false = true from hs) Bool.false_ne_true
  | str i=>
    obtain ⟨t,rfl⟩:=rx
    cases y with
    | non=>cases ry; exact PySem.EqNone.eq_str_none (fin_bl I q (by simp))
    | bl j=>cases ry; exact PySem.EqMixed.eq_str_bool (fin_bl I q (by simp))
    | int j=>obtain ⟨t',rfl⟩:=ry; exact PySem.EqMixed.eq_str_int (fin_bl I q (by simp))
    | str j=>obtain ⟨t',rfl⟩:=ry; exact eq_str (fin_bl I q dec_str)
    | _=>exact absurd (show false = true from hs) Bool.false_ne_true
  | byt i=>
    obtain ⟨t,rfl⟩:=rx
    cases y with
    | byt j=>obtain ⟨t',rfl⟩:=ry; exact PySem.W.eq_bytes (fin_bl I q dec_byt)
    | _=>exact absurd (show false = true from hs) Bool.false_ne_true
  | _=>cases y <;> exact absurd (show false = true from hs) Bool.false_ne_true
theorem op_lt : OpR X (compareOp .Lt) (rI0 fun i j=>.bl (decide (i < j))):=opB0 fun _ _ _ _ _ _ _ q=>lt_int q
theorem op_le : OpR X (compareOp .LtE) (rI0 fun i j=>.bl (decide (i <= j))):=opB0 fun _ _ _ _ _ _ _ q=>le_int q
theorem op_ge : OpR X (compareOp .GtE) (rI0 fun i j=>.bl (decide (j <= i))):=opB0 fun _ _ _ _ _ _ _ q=>ge_int q
theorem OpR.or {f : Value -> Value -> Sem Value} {r r' : R2} (h : OpR X f r) (h' : OpR X f r') : OpR X f (fun x y H Q=>r x y H Q \/ r' x y H Q):=by
  intro pins s σ H x y v u Q I rx ry q
  rcases q with q | q
  · exact h pins s σ H x y v u Q I rx ry q
  · exact h' pins s σ H x y v u Q I rx ry q
theorem nomark (b : Expr) {op : CmpOp} (h : op ≠ .In:=by decide) (h2 : op ≠ .NotIn:=by decide) : behindInMarks op b = false:=by
  have e1 : (op == CmpOp.In) = false:=by cases op <;> first | rfl | exact absurd rfl h
  have e2 : (op == CmpOp.NotIn) = false:=by cases op <;> first | rfl | exact absurd rfl h2
  cases b <;> simp [behindInMarks,e1,e2]
theorem pe_cmpR {op : CmpOp} {r : R2} (ho : OpR X (compareOp op) r) (ha : PE X a ta) (hb : PE X b tb) (hm : behindInMarks op b = false) : PE X (.Compare a [op] [b] pos) (tOp r ta tb):=by
  intro pins s σ H Q I h
  exact wpAny_Compare1 (binT ha hb I h fun v u s2 x y H2 I2 rx ry q=>ho pins s2 σ H2 x y v u Q I2 rx ry q) hm
def tTest (t : TE) : TT:=fun σ H Q=>t σ H fun x H'=>∃ k,x = .bl k /\ Q k H'
theorem pt_cmpR {op : CmpOp} {r : R2} (ho : OpR X (compareOp op) r) (ha : PE X a ta) (hb : PE X b tb) (hm : behindInMarks op b = false) : PT X (.Compare a [op] [b] pos) (tTest (tOp r ta tb)):=by
  intro pins s σ H Q I h
  refine wpAny_isTrue_Compare1 (thn (ha pins s σ H _ I h) fun v s1 ⟨x,H1,I1,r1,q1⟩=>thn (hb pins s1 σ H1 _ I1 q1) fun u s2 ⟨y,H2,I2,r2,q2⟩=>
    thn (ho pins s2 σ H2 x y v u _ I2 r1 r2 q2) fun c s3 ⟨z,H3,I3,r3,k,e,q3⟩=>?_) hm
  subst e
  cases r3
  exact wpAny_truthy_bool ⟨H3,I3,q3⟩
def tChain (r r' : R2) (ta tb tc : TE) : TE:=fun σ H Q=>ta σ H fun x H1=>tb σ H1 fun y H2=>r x y H2 fun z H3=>∃ k,z = .bl k /\
  (if k = true then tc σ H3 fun w' H4=>r' y w' H4 Q else Q (.bl false) H3)
theorem pe_chain {op op' : CmpOp} {r r' : R2} (ho : OpR X (compareOp op) r) (ho' : OpR X (compareOp op') r') (ha : PE X a ta) (hb : PE X b tb) (hc : PE X c tc)
    (hm : lastMarks [op,op'] [b,c] = false:=by with_unfolding_all rfl) : PE X (.Compare a [op,op'] [b,c] pos) (tChain r r' ta tb tc):=by
  intro pins s σ H Q I h
  refine Compare_chain (thn (ha pins s σ H _ I h) fun v s1 ⟨x,H1,I1,r1,q1⟩=>chain_link (thn (hb pins s1 σ H1 _ I1 q1) fun u s2 ⟨y,H2,I2,r2,q2⟩=>
    thn (ho pins s2 σ H2 x y v u _ I2 r1 r2 q2) fun d s3 ⟨z,H3,I3,r3,k,e,q3⟩=>?_)) hm
  subst e
  cases r3
  refine wpAny_truthy_bool ?_
  cases k with
  | false=>exact ite_ff ⟨.bl false,H3,I3,rfl,q3⟩
  | true=>exact ite_tt (chain_last (thn (hc pins s3 σ H3 _ I3 q3) fun w' s4 ⟨z',H4,I4,r4,q4⟩=>ho' pins s4 σ H4 y z' u w' Q I4 r2 r4 q4))
theorem pt_chain {op op' : CmpOp} {r r' : R2} (ho : OpR X (compareOp op) r) (ho' : OpR X (compareOp op') r') (ha : PE X a ta) (hb : PE X b tb) (hc : PE X c tc)
    (hm : lastMarks [op,op'] [b,c] = false:=by with_unfolding_all rfl) : PT X (.Compare a [op,op'] [b,c] pos) (tTest (tChain r r' ta tb tc)):=by
  intro pins s σ H Q I h
  refine isTrue_chain (thn (ha pins s σ H _ I h) fun v s1 ⟨x,H1,I1,r1,q1⟩=>test_link (thn (hb pins s1 σ H1 _ I1 q1) fun u s2 ⟨y,H2,I2,r2,q2⟩=>
    thn (ho pins s2 σ H2 x y v u _ I2 r1 r2 q2) fun d s3 ⟨z,H3,I3,r3,k,e,q3⟩=>?_)) hm
  subst e
  cases r3
  refine wpAny_truthy_bool ?_
  cases k with
  | false=>
    obtain ⟨k',e',q'⟩:=q3
    cases e'
    exact ite_ff ⟨H3,I3,q'⟩
  | true=>
    refine ite_tt (test_last (thn (hc pins s3 σ H3 _ I3 q3) fun w' s4 ⟨z',H4,I4,r4,q4⟩=>thn (ho' pins s4 σ H4 y z' u w' _ I4 r2 r4 q4) fun d' s5 ⟨z2,H5,I5,r5,k2,e2,q5⟩=>?_))
    subst e2
    cases r5
    exact wpAny_truthy_bool ⟨H5,I5,q5⟩
theorem line63 : (sizeLine : Nat) < 2 ^ 63:=by rw [sizeLine_eq]; decide
theorem op_add_str : OpR X (binaryOp .Add) (fun x y H Q=>∃ i j,x = .str i /\ y = .str j /\ i.length + j.length <= sizeLine /\ Q (.str (i ++ j)) H):=by
  intro pins s σ H x y v u Q I rx ry h
  obtain ⟨i,j,rfl,rfl,hz,q⟩:=h
  obtain ⟨t,rfl⟩:=rx
  obtain ⟨t',rfl⟩:=ry
  exact add_str (fun t' tk=>⟨.str (i ++ j),H,I.tok _,⟨_,rfl⟩,q⟩) hz
theorem vals1 {x : V} {us : List Value} (r : Vals [x] us) : ∃ u,us = [u] /\ RelV x u:=by
  cases r with
  | cons r1 r2=>cases r2; exact ⟨_,rfl,r1⟩
theorem vals2 {x y : V} {us : List Value} (r : Vals [x,y] us) : ∃ u w',us = [u,w'] /\ RelV x u /\ RelV y w':=by
  cases r with
  | cons r1 r2=>
    cases r2 with
    | cons r3 r4=>cases r4; exact ⟨_,_,rfl,r1,r3⟩
theorem call_max2 (hc : X.calm = true) : CallR X (.builtin "max") (fun xs H Q=>∃ i j,xs = [.int i,.int j] /\ Q (.int (if j > i then j else i)) H):=by
  intro pins s σ H xs us Q I r h
  obtain ⟨i,j,rfl,q⟩:=h
  obtain ⟨u,w',rfl,⟨t,rfl⟩,⟨t',rfl⟩⟩:=vals2 r
  refine max_two_ints (I.ok.hd hc) fun h' tk k=>⟨_,H,I.kept k,?_,q⟩
  by_cases hj : j > i
  · rw [if_pos hj,if_pos hj]; exact ⟨_,rfl⟩
  · rw [if_neg hj,if_neg hj]; exact ⟨_,rfl⟩
theorem call_min2 (hc : X.calm = true) : CallR X (.builtin "min") (fun xs H Q=>∃ i j,xs = [.int i,.int j] /\ Q (.int (if j < i then j else i)) H):=by
  intro pins s σ H xs us Q I r h
  obtain ⟨i,j,rfl,q⟩:=h
  obtain ⟨u,w',rfl,⟨t,rfl⟩,⟨t',rfl⟩⟩:=vals2 r
  refine min_two_ints (I.ok.hd hc) fun h' tk k=>⟨_,H,I.kept k,?_,q⟩
  by_cases hj : j < i
  · rw [if_pos hj,if_pos hj]; exact ⟨_,rfl⟩
  · rw [if_neg hj,if_neg hj]; exact ⟨_,rfl⟩
end
end L2
namespace L2
open PySem PySem.Spec PyProof.Rows
structure ObjM (h : Heap) (x dx C : Addr) (mA : Str -> Option Value) : Prop where
  obj : h.get? x = some (PySem.W.instObj C dx)
  ns : h.Ns1 dx mA
  ne : dx ≠ x
theorem lookIn_ns {h : Heap} {dx : Addr} {mA : Str -> Option Value} (n : h.Ns1 dx mA) : ∃ od,h.get? dx = some od /\ ∀ name,PySem.W.lookIn name od = some (mA name):=by
  obtain ⟨o,es,ep,ho,hd,hk,_,hm⟩:=n
  refine ⟨o,ho,fun name=>?_⟩
  have e:=hm name
  unfold nsFind findBy at e
  rw [<- Array.find?_toList] at e
  unfold PySem.W.lookIn
  rw [hd]
  dsimp only
  split
  · rename_i y q
    rw [q] at e
    exact congrArg some e
  · rename_i q
    rw [q] at e
    have a : es.toList.any (·.refKey) = false:=by
      rw [List.any_eq_false]
      intro y hy
      obtain ⟨z,t,hkey⟩:=hk y (Array.mem_toList_iff.mp hy)
      simp [DictEntry.refKey,hkey]
    have a' : ¬ es.toList.any (·.refKey) = true:=by rw [a]; exact Bool.false_ne_true
    rw [if_neg a']
    exact congrArg some e
theorem ObjM.look {h : Heap} {x dx C : Addr} {mA : Str -> Option Value} (I : ObjM h x dx C mA) : ∃ od,PySem.W.InstAt h x (PySem.W.instObj C dx) C (some od) /\ ∀ name,PySem.W.lookIn name od = some (mA name):=
  let ⟨od,ho,hl⟩:=lookIn_ns I.ns
  ⟨od,⟨I.obj,rfl,rfl,ho⟩,hl⟩
section
variable {prog : Program} {w : World} {A : Around} {E : Value -> Shared -> Prop} {s : Shared} {K : PySem.W.Frag} {x dx C f : Addr} {mA : Str -> Option Value} {name : Str} {v : Value}
end
section
variable {P : Program} {w : World} {H H' : Hp} {h h' : Heap} {a C dx : Addr} {fs fs' : List (Str × V)}
theorem ins_get (hok : HOk P w H h) (e : H a = some (.ins C dx fs)) : ∃ mA,ObjM h a dx C mA /\ (∀ f,RelO (fs.lookup f) (mA f)) /\ PySem.Within mA (fs.map (·.1)) /\ fs.length <= 1000 /\ H dx = some (.own a):=by
  obtain ⟨d,z,ne,ob,mA,n,r,q⟩:=(show ObjOk P w H h a (.ins C dx fs) from hok a _ e)
  exact ⟨mA,⟨ob,n,ne⟩,r,q,z,d⟩
end
structure Cls (K : PySem.W.Frag) (C : Addr) : Prop where
  pg : PySem.W.plainGet K C Str.empty = true
  hd : PySem.W.hasDictIn K C = true
  po : PySem.W.plainOver K C = true
  sa : PySem.W.findIn K (.ref C) "__setattr__" = some (some (.builtin "object.__setattr__"))
theorem Cls.get {K : PySem.W.Frag} {C : Addr} (c : Cls K C) (f : Str) : PySem.W.plainGet K C f = true:=c.pg
section
variable {X : Cx} {pins : List (Addr × Obj)} {σ : St} {H : Hp} {s : Shared} {a C dx : Addr} {fs : List (Str × V)} {f : Str} {v : V} {A : Around} {E : Value -> Shared -> Prop}
end
section
variable {X : Cx} {o e value : Expr} {f : Str} {pos pos' tpos : Pos} {ta tv : TE}
end
section
variable {X : Cx} {pins : List (Addr × Obj)} {σ : St} {H : Hp} {s : Shared} {A : Around} {E : Value -> Shared -> Prop} {Q : Value -> Shared -> Prop} {c : Value} {b : Bool}
inductive TyOf (K : PySem.W.Frag) (H : Hp) : V -> Value -> Prop where
  | non : TyOf K H .non (.type "NoneType")
  | bl (x : Bool) : TyOf K H (.bl x) (.type "bool")
  | int (i : Int) : TyOf K H (.int i) (.type "int")
  | str (x : Str) : TyOf K H (.str x) (.type "str")
  | flt (x : UInt64) : TyOf K H (.flt x) (.type "float")
  | lst {a : Addr} {xs : List V} (e : H a = some (.lst xs)) : TyOf K H (.ref a) (.type "list")
  | frz {a : Addr} {o : Obj} {xs : List V} (e : H a = some (.frz o (.lst xs))) : TyOf K H (.ref a) (.type "list")
  | tup {a : Addr} {xs : List V} (e : H a = some (.tup xs)) : TyOf K H (.ref a) (.type "tuple")
  | dK {a : Addr} {kvs : List (Key × V)} (e : H a = some (.dK kvs)) : TyOf K H (.ref a) (.type "dict")
  | dT {a : Addr} {kvs : List (List Key × V)} (e : H a = some (.dT kvs)) : TyOf K H (.ref a) (.type "dict")
  | ins {a C dx : Addr} {fs : List (Str × V)} (e : H a = some (.ins C dx fs)) (cl : Cls K C) (ha : PySem.W.findIn K (.ref C) "__class__" = some (some (.builtin "object.__class__")))
      (hn : PySem.W.specialIn K (.builtin "object.__class__") "__get__" = some (some (.builtin "getset_descriptor.__get__"))) (htk : PySem.W.takesIn K (.builtin "object.__class__") = some true)
      (hm : PySem.W.mroIn K C (.type "object") = some true) : TyOf K H (.ref a) (.ref C)
theorem isinst_ok {x : V} {u t : Value} (I : Inv X pins σ H s) (rx : RelV x u) (ty : TyOf X.K H x t) (e : PySem.W.kitOne X.K t c = some b) (h : ∀ tk,Q (.bool b) { s with toks:=tk }) :
    wpAny (model X.prog X.w) A (call (.builtin "isinstance") [u,c]) Q E s:=by
  cases ty with
  | non=>cases (show u = Value.none from rx); exact PySem.W.kia_one PySem.W.kitx_none I.kIn True.intro e (fun z=>nomatch z) h
  | bl y=>cases (show u = Value.bool y from rx); exact PySem.W.kia_one PySem.W.kitx_bool I.kIn True.intro e (fun z=>nomatch z) h
  | int i=>obtain ⟨t,q⟩:=(show ∃ t,u = Value.int i t from rx); cases q; exact PySem.W.kia_one PySem.W.kitx_int I.kIn True.intro e (fun z=>nomatch z) h
  | str y=>obtain ⟨t,q⟩:=(show ∃ t,u = Value.str y t from rx); cases q; exact PySem.W.kia_one PySem.W.kitx_str I.kIn True.intro e (fun z=>nomatch z) h
  | flt y=>obtain ⟨t,q⟩:=(show ∃ t,u = Value.float y t from rx); cases q; exact PySem.W.kia_one PySem.W.kitx_float I.kIn True.intro e (fun z=>nomatch z) h
  | @lst a xs ea=>
    cases (show u = Value.ref a from rx)
    obtain ⟨_,_,n,_,h1⟩:=(show ObjOk X.prog X.w H s.heap a (.lst xs) from I.hok a _ ea)
    exact PySem.W.kia_one PySem.W.kitx_list I.kIn ⟨_,h1,rfl⟩ e (fun z=>nomatch z) h
  | @frz a ob xs ea=>
    cases (show u = Value.ref a from rx)
    obtain ⟨_,_,_,n,_,h1⟩:=(show ObjOk X.prog X.w H s.heap a (.frz ob (.lst xs)) from I.hok a _ ea)
    exact PySem.W.kia_one PySem.W.kitx_list I.kIn ⟨_,h1,rfl⟩ e (fun z=>nomatch z) h
  | @tup a xs ea=>
    cases (show u = Value.ref a from rx)
    obtain ⟨_,_,_,p⟩:=(show ObjOk X.prog X.w H s.heap a (.tup xs) from I.hok a _ ea)
    obtain ⟨o,h1,h2,_⟩:=p
    exact PySem.W.kia_one PySem.W.kitx_tuple I.kIn ⟨o,h1,h2⟩ e (fun z=>nomatch z) h
  | @dK a kvs ea=>
    cases (show u = Value.ref a from rx)
    obtain ⟨_,_,vs,_,p⟩:=(show ObjOk X.prog X.w H s.heap a (.dK kvs) from I.hok a _ ea)
    obtain ⟨o,es,ep,h1,h2,_⟩:=p
    exact PySem.W.kia_one PySem.W.kitx_dict I.kIn ⟨o,h1,h2.1⟩ e (fun z=>nomatch z) h
  | @dT a kvs ea=>
    cases (show u = Value.ref a from rx)
    obtain ⟨_,_,xs,_,o,es,ep,h1,h2,_⟩:=(show ObjOk X.prog X.w H s.heap a (.dT kvs) from I.hok a _ ea)
    exact PySem.W.kia_one PySem.W.kitx_dict I.kIn ⟨o,h1,h2.1⟩ e (fun z=>nomatch z) h
  | @ins a C dx fs ea cl ha hn htk hm=>
    cases (show u = Value.ref a from rx)
    obtain ⟨mA,O,_⟩:=ins_get I.hok ea
    obtain ⟨od,J,_⟩:=O.look
    exact PySem.W.kia_one (PySem.W.kitx_own (cl.get _) cl.hd ha hn htk hm) I.kIn J e (fun z=>nomatch z) h
end
end L2
namespace L2
open PySem PySem.Spec PyProof.Rows
structure Room (k : Nat) (A : Around) : Prop where
  hd : A.handled = none
  dp : A.depth + 3 * k + 5 < recursionLimit
  un : A.units + 16 * k + 200 < cLine
theorem Room.mono {j k : Nat} {A : Around} (r : Room k A) (h : j <= k) : Room j A:=⟨r.hd,by have:=r.dp; omega,by have:=r.un; omega⟩
theorem Room.deeper {k : Nat} {A : Around} (r : Room (k + 1) A) (env : Env) : Room k (A.deeper env):=
  ⟨r.hd,by have:=r.dp; show A.depth + 1 + 3 * k + 5 < _; omega,by have:=r.un; show A.units + 3 + 16 * k + 200 < _; omega⟩
theorem make_depth {A : Around} {C : Addr} {us : List Value} {kw : List (Str × Value)} : (A.under (.builtin "type.__call__" ⟨.ref C :: us,kw⟩)).depth = A.depth + 1:=by
  first | rfl | simp [Around.under,Code.weight,Code.isCreation,Code.isGuard,Code.isCaller,Code.frames,Code.isFrame,guardIds]
theorem make_units {A : Around} {C : Addr} {us : List Value} {kw : List (Str × Value)} : (A.under (.builtin "type.__call__" ⟨.ref C :: us,kw⟩)).units = A.units + 1:=by
  first | rfl | simp [Around.under,Code.cUnits,Code.frames,Code.isFrame]
theorem Room.make {k : Nat} {A : Around} (r : Room (k + 1) A) (C : Addr) (us : List Value) (kw : List (Str × Value)) : Room k (A.under (.builtin "type.__call__" ⟨.ref C :: us,kw⟩)):=
  ⟨r.hd,by have:=r.dp; rw [make_depth]; omega,by have:=r.un; rw [make_units]; omega⟩
theorem Room.depth {k : Nat} {A : Around} (r : Room k A) : A.depth < recursionLimit:=by have:=r.dp; omega
theorem Room.units {k : Nat} {A : Around} (r : Room k A) : A.units + 64 < cLine:=by have:=r.un; omega
def tNil : TA:=fun _ H Q=>Q [] H
def tCons (ta : TE) (tr : TA) : TA:=fun σ H Q=>ta σ H fun x H1=>tr σ H1 fun xs H2=>Q (x :: xs) H2
section
variable {X : Cx} {e : Expr} {es : List Expr} {te : TE} {t : TA} {pos : Pos}
theorem pa_nil : PA X [] tNil:=fun _ _ _ _ H Q I h=>Calls.spliced_nil ⟨[],H,I,.nil,h⟩
theorem pa_cons (ha : PE X e te) (hr : PA X es t) (hs : starEach (e :: es) X.env = (false,eval e X.env) :: starEach es X.env:=by rfl) : PA X (e :: es) (tCons te t):=by
  intro pos pins s σ H Q I h
  rw [hs]
  show wpAny _ _ (spliced ((false,eval e X.env) :: backTo pos (starEach es X.env))) _ _ s
  refine Calls.spliced_cons (thn (ha pins s σ H _ I h) fun u s1 ⟨x,H1,I1,r1,q1⟩=>?_)
  exact thn (hr pos pins s1 σ H1 _ I1 q1) fun us s2 ⟨xs,H2,I2,r2,q2⟩=>⟨x :: xs,H2,I2,.cons r1 r2,q2⟩
def tTup (t : TA) : TE:=fun σ H Q=>t σ H fun xs H1=>xs.length <= sizeLine /\ ∀ p,H1 p = none -> Q (.ref p) (upd H1 p (.tup xs))
def tLst (t : TA) : TE:=fun σ H Q=>t σ H fun xs H1=>xs.length <= sizeLine /\ ∀ p,H1 p = none -> Q (.ref p) (upd H1 p (.lst xs))
theorem pe_tup {x1} (h : PA X es t) : PE X (.Tuple es x1 pos) (tTup t):=by
  intro pins s σ H Q I hq
  refine wpAny_Tuple_spliced (thn (h pos pins s σ H _ I hq) fun us s1 ⟨xs,H1,I1,r,z,q⟩=>⟨by rw [<- r.length]; exact z,?_⟩)
  have hf : H1 s1.heap.objs.size = none:=I1.hok.fresh (Nat.le_refl _)
  refine ⟨.ref s1.heap.objs.size,upd H1 s1.heap.objs.size (.tup xs),I1.laid (t':=s1.toks) (fun b u e=>Heap.get?_push_of_some _ e) (Nat.le_refl _) ?_,rfl,q _ hf⟩
  exact ⟨z,us,r,⟨_,Heap.get?_push_size _ rfl,rfl,_,rfl⟩⟩
theorem pe_lst (h : PA X es t) : PE X (.List es pos) (tLst t):=by
  intro pins s σ H Q I hq
  refine wpAny_List_spliced (thn (h pos pins s σ H _ I hq) fun us s1 ⟨xs,H1,I1,r,z,q⟩=>⟨by rw [<- r.length]; exact z,?_⟩)
  have hf : H1 s1.heap.objs.size = none:=I1.hok.fresh (Nat.le_refl _)
  refine ⟨.ref s1.heap.objs.size,upd H1 s1.heap.objs.size (.lst xs),I1.laid (t':=s1.toks) (fun b u e=>Heap.get?_push_of_some _ e) (Nat.le_refl _) ?_,rfl,q _ hf⟩
  exact ⟨z,us,0,r,Heap.get?_push_size _ rfl⟩
end
abbrev Sp:=List V -> Hp -> VK -> XK -> Prop
abbrev CXT:=List Env -> Hp -> Shared -> XK -> Value -> Shared -> Prop
structure Env0 (P : Program) (w : World) (K : PySem.W.Frag) (mg : Str -> Option Value) (base : Heap) (A : Around) (outer : List Env) (s : Shared) (H : Hp) : Prop where
  frames : A.frames = some outer
  mod : Mod K mg base
  bs : ∀ b o,base.get? b = some o -> s.heap.get? b = some o /\ H b = none
  bsz : base.objs.size <= s.heap.objs.size
  funs : s.heap.FunFrames base outer
  frf : ∀ b ∈ frs outer,H b = none
  hok : HOk P w H s.heap
  bare : AllBare s.gens
def CE (outer : List Env) (P : Program) (w : World) (H : Hp) (s : Shared) (Q : VK) (u : Value) (s' : Shared) : Prop:=
  ∃ v H',s'.os = s.os /\ AllBare s'.gens /\ Un (frs outer) [] H H' s.heap s'.heap /\ HOk P w H' s'.heap /\ RelV v u /\ Q v H'
def CR (CX : CXT) (outer : List Env) (P : Program) (w : World) (H : Hp) (s : Shared) (Q : VK) (E : XK) (r : Result) (s' : Shared) : Prop:=
  match r with
  | .ok (.ret u)=>CE outer P w H s Q u s'
  | .ok _=>False
  | .error e=>CX outer H s E e s'
structure FnOk (P : Program) (w : World) (K : PySem.W.Frag) (mg : Str -> Option Value) (base : Heap) (CX : CXT) (k : Nat) (f : Addr) (fd : FuncData) (ps : List Str) (sp : Sp) : Prop where
  len : ∀ vs H Q E,sp vs H Q E -> vs.length = ps.length
  run : ∀ (A : Around) (outer : List Env) (s : Shared) (H : Hp) (args : Args) (us : List Value) (vs : List V) (Q : VK) (E : XK),Room k A -> Env0 P w K mg base A outer s H -> BindsTo s fd args (ps.zip us) -> Vals vs us -> sp vs H Q E ->
    codeAny (model P w) A (.call (.ref f) args) (CR CX outer P w H s Q E) s
theorem FnOk.imp {P : Program} {w : World} {K : PySem.W.Frag} {mg : Str -> Option Value} {base : Heap} {CX : CXT} {k : Nat} {f : Addr} {fd : FuncData} {ps : List Str} {sp sp' : Sp} (F : FnOk P w K mg base CX k f fd ps sp)
    (h : ∀ vs H Q E,sp' vs H Q E -> sp vs H Q E) : FnOk P w K mg base CX k f fd ps sp':=
  ⟨fun vs H Q E q=>F.len vs H Q E (h _ _ _ _ q),fun A outer s H args us vs Q E hr he hb hv hs=>F.run A outer s H args us vs Q E hr he hb hv (h _ _ _ _ hs)⟩
theorem Env0.make {P : Program} {w : World} {K : PySem.W.Frag} {mg : Str -> Option Value} {base : Heap} {A : Around} {outer : List Env} {s : Shared} {H : Hp} (e : Env0 P w K mg base A outer s H) (C : Addr) (us : List Value) (kw : List (Str × Value)) :
    Env0 P w K mg base (A.under (.builtin "type.__call__" ⟨.ref C :: us,kw⟩)) outer s H:=⟨by first | exact e.frames | (simpa [Around.under,Code.envs,Code.isFrame,pushEnvs] using e.frames),e.mod,e.bs,e.bsz,e.funs,e.frf,e.hok,e.bare⟩
section
variable {X : Cx} {pins : List (Addr × Obj)} {σ : St} {H : Hp} {s s' : Shared}
theorem Inv.env0 (I : Inv X pins σ H s) : Env0 X.prog X.w X.K X.mg X.base X.A X.stack s H:=
  ⟨I.ok.frames,I.ok.mod,I.bs,Nat.le_trans I.ok.bsz I.sz,I.stack,I.stkFree,I.hok,I.bare⟩
theorem Inv.after {Q : VK} {u : Value} (I : Inv X pins σ H s) (h : CE X.stack X.prog X.w H s Q u s') : EP X pins σ Q u s':=by
  obtain ⟨v,H',os,bare,un,hok,r,q⟩:=h
  obtain ⟨hh,g,d,t,os'⟩:=s'
  obtain rfl : os' = s.os:=os
  exact ⟨v,H',I.call (h':=hh) (g':=g) (d':=d) (t':=t) (ch:=[]) un hok bare (fun b z=>absurd z (by simp)),r,q⟩
end
def tCall (sp : Sp) (dvs : List V) (E : XK) (t : TA) : TE:=fun σ H Q=>t σ H fun vs H1=>sp (vs ++ dvs) H1 Q E
def Binds (K : PySem.W.Frag) (fd : FuncData) (ps : List Str) (ds : List Value) : Prop:=
  ∀ (s : Shared) (us : List Value),K.In s.heap -> (us ++ ds).length = ps.length -> BindsTo s fd ⟨us,[]⟩ (ps.zip (us ++ ds))
theorem Binds.all {K : PySem.W.Frag} {fd : FuncData} {ps : List Str} (h : ∀ us : List Value,us.length = ps.length -> bindArgs fd ⟨us,[]⟩ = pure (ps.zip us)) : Binds K fd ps []:=fun s us _ hl=>by
  rw [List.append_nil] at hl ⊢
  exact .of_eq (h us hl)
def Passes (CX : CXT) (X : Cx) (E : XK) : Prop:=∀ (pins : List (Addr × Obj)) (σ : St) (H : Hp) (s : Shared) (e : Value) (s' : Shared),Inv X pins σ H s -> CX X.stack H s E e s' -> X.xe e s'
section
variable {X : Cx} {CX : CXT} {k : Nat} {f C : Addr} {fd : FuncData} {ps : List Str} {sp : Sp} {dvs : List V} {ds : List Value} {E : XK} {x m : Str} {p pos apos : Pos} {e o : Expr} {es : List Expr} {ta : TE} {t : TA}
theorem run_fn {pins : List (Addr × Obj)} {σ : St} {H : Hp} {s : Shared} {Q : VK} {us : List Value} {vs : List V} (F : FnOk X.prog X.w X.K X.mg X.base CX k f fd ps sp) (hr : Room k X.A) (hb : Binds X.K fd ps ds) (hd : Vals dvs ds) (hx : Passes CX X E)
    (I : Inv X pins σ H s) (r : Vals vs us) (h : sp (vs ++ dvs) H Q E) : wpAny (model X.prog X.w) X.A (call (.ref f) us) (EP X pins σ Q) X.xe s:=by
  have r2 : Vals (vs ++ dvs) (us ++ ds):=r.append hd
  have hl : (us ++ ds).length = ps.length:=by rw [<- r2.length]; exact F.len _ _ _ _ h
  refine wpAny_call (codeAny_mono (F.run X.A X.stack s H ⟨us,[]⟩ (us ++ ds) (vs ++ dvs) Q E hr I.env0 (hb s us I.kIn hl) r2 h) fun r s' hq=>?_)
  cases r with
  | error e=>exact hx pins σ H s e s' I hq
  | ok fl=>
    cases fl with
    | ret u=>exact I.after hq
    | next=>exact False.elim hq
    | brk=>exact False.elim hq
    | cont=>exact False.elim hq
theorem pe_call (F : FnOk X.prog X.w X.K X.mg X.base CX k f fd ps sp) (hr : Room k X.A) (hg : Gl X x) (hm : X.mg x = some (.ref f)) (hk : PySem.W.keepIn X.K (.ref f) = true) (hb : Binds X.K fd ps ds) (hd : Vals dvs ds) (hx : Passes CX X E)
    (ha : PA X (e :: es) t) (hdb : (x == ("__debug__" : Str)) = false:=by decide) (he : starEach (e :: es) X.env = (false,eval e X.env) :: starEach es X.env:=by rfl) (hpl : (backTo pos (starEach es X.env)).any (·.1) = false:=by rfl) :
    PE X (.Call (.Name x p) (e :: es) [] pos) (tCall sp dvs E t):=by
  intro pins s σ H Q I h
  refine wpAny_Call_Name_kw (ld_glob I hg hm ?_ hdb)
  refine PySem.W.callWith_K (h₀:=X.base) I.ok.mod.kin hk (thn (ha pos pins s σ H _ I h) fun us s1 ⟨vs,H1,I1,r,q⟩=>⟨I1.kIn,?_⟩) he hpl
  exact run_fn F hr hb hd hx I1 r q
end
def PK (X : Cx) (kws : List Keyword) (t : TA) : Prop:=
  ∀ (pos : Pos) (pins : List (Addr × Obj)) (s : Shared) (σ : St) (H : Hp) (Q : List V -> Hp -> Prop),Inv X pins σ H s -> t σ H Q -> wpAny (model X.prog X.w) X.A (evalAll ((backToKw pos (keywordEach kws X.env)).map (·.2))) (AP X pins σ Q) X.xe s
section
variable {X : Cx} {CX : CXT} {k : Nat} {f C : Addr} {fd : FuncData} {ps ks : List Str} {sp : Sp} {E : XK} {x m : Str} {p pos apos kpos : Pos} {e o : Expr} {es : List Expr} {kws : List Keyword} {te ta : TE} {t tk : TA} {nm : Option Str}
variable {g : List Value -> List Value -> List Value} {gV : List V -> List V -> List V}
end
structure FnScope (N P : List Str) (sc : Scope) : Prop where
  kind : sc.kind = .function
  co : sc.isCoroutine = false
  gen : sc.isGenerator = false
  nd : N.Nodup
  pre : N.take P.length = P
  par : ∀ x ∈ P,sc.names.lookup x = some .local \/ sc.names.lookup x = some .cell
  nofree : ∀ y ∈ sc.names,y.2 ≠ .free
theorem bindL_out {kindOf : Str -> Option NameKind} {x : Str} : ∀ {binds : List (Str × Value)} {m : Str -> Option Value},(∀ v,(x,v) ∉ binds) -> bindL kindOf binds m x = m x
  | [],_,_=>rfl
  | (n,v) :: r,m,h=>by
    unfold bindL
    rw [bindL_out fun w hw=>h w (List.mem_cons_of_mem _ hw)]
    split
    · have : x ≠ n:=by rintro rfl; exact h v List.mem_cons_self
      simp [this]
    · rfl
theorem bindC_out {kindOf : Str -> Option NameKind} {x : Str} : ∀ {binds : List (Str × Value)} {m : Str -> Option Value},(∀ v,(x,v) ∉ binds) -> bindC kindOf binds m x = m x
  | [],_,_=>rfl
  | (n,v) :: r,m,h=>by
    unfold bindC
    rw [bindC_out fun w hw=>h w (List.mem_cons_of_mem _ hw)]
    split
    · rfl
    · have : x ≠ n:=by rintro rfl; exact h v List.mem_cons_self
      simp [this]
theorem bindL_get {kindOf : Str -> Option NameKind} {x : Str} {v : Value} : ∀ {P : List Str} {vs : List Value} {i : Nat} {m : Str -> Option Value},P.Nodup -> P[i]? = some x -> vs[i]? = some v -> kindOf x = some .local ->
    bindL kindOf (P.zip vs) m x = some v
  | [],_,_,_,_,h,_,_=>by simp at h
  | _ :: _,[],_,_,_,_,h,_=>by simp at h
  | p :: P,w :: vs,0,m,nd,h1,h2,hk=>by
    simp at h1 h2; subst h1; subst h2
    show bindL kindOf ((p,w) :: P.zip vs) m p = _
    unfold bindL
    rw [bindL_out fun v hv=>(List.nodup_cons.mp nd).1 (List.of_mem_zip hv).1,if_pos hk]
    simp
  | p :: P,w :: vs,i + 1,m,nd,h1,h2,hk=>by
    show bindL kindOf ((p,w) :: P.zip vs) m x = _
    unfold bindL
    exact bindL_get (i:=i) (List.nodup_cons.mp nd).2 (by simpa using h1) (by simpa using h2) hk
theorem bindC_get {kindOf : Str -> Option NameKind} {x : Str} {v : Value} : ∀ {P : List Str} {vs : List Value} {i : Nat} {m : Str -> Option Value},P.Nodup -> P[i]? = some x -> vs[i]? = some v -> kindOf x ≠ some .local ->
    bindC kindOf (P.zip vs) m x = some v
  | [],_,_,_,_,h,_,_=>by simp at h
  | _ :: _,[],_,_,_,_,h,_=>by simp at h
  | p :: P,w :: vs,0,m,nd,h1,h2,hk=>by
    simp at h1 h2; subst h1; subst h2
    show bindC kindOf ((p,w) :: P.zip vs) m p = _
    unfold bindC
    rw [bindC_out fun v hv=>(List.nodup_cons.mp nd).1 (List.of_mem_zip hv).1,if_neg hk]
    simp
  | p :: P,w :: vs,i + 1,m,nd,h1,h2,hk=>by
    show bindC kindOf ((p,w) :: P.zip vs) m x = _
    unfold bindC
    exact bindC_get (i:=i) (List.nodup_cons.mp nd).2 (by simpa using h1) (by simpa using h2) hk
def start (N : List Str) (vs : List V) : St:=vs.map some ++ List.replicate (N.length - vs.length) none
def cxOf (CX : CXT) (P : Program) (w : World) (K : PySem.W.Frag) (mg : Str -> Option Value) (base : Heap) (N : List Str) (qual : Str) (scope : Scope) (f : Addr) (cd : Value) (A : Around) (outer : List Env) (s : Shared) (H : Hp) (E : XK) : Cx where
  prog:=P
  w:=w
  K:=K
  mg:=mg
  base:=base
  A:=A.deeper (envOfC qual scope s.heap.objs.size f cd)
  N:=N
  s₀:=s
  H₀:=H
  env:=envOfC qual scope s.heap.objs.size f cd
  outer:=outer
  stack:=envOfC qual scope s.heap.objs.size f cd :: outer
  ex:=[]
  calm:=true
  fn:=fun _=>true
  pn:=[]
  xe:=fun e s'=>wpAny (model P w) (A.deeper (envOfC qual scope s.heap.objs.size f cd)) (leaving (envOfC qual scope s.heap.objs.size f cd) e) (fun _ s''=>CX outer H s E e s'') (fun e' s''=>CX outer H s E e' s'') s'
theorem cell_has {sc : Scope} {n : Nat} {x : Str} (h : sc.names.lookup x = some .cell) : ∃ c,(cellsFrom n sc.names []).lookup x = some c:=by
  have q:=PySem.W.cellsFrom_some sc.names n [] (.inl h)
  exact Option.isSome_iff_exists.mp q
theorem inv_start {CX : CXT} {P : Program} {w : World} {K : PySem.W.Frag} {mg : Str -> Option Value} {base : Heap} {N ps : List Str} {qual : Str} {scope : Scope} {f : Addr} {cd : Value} {A : Around} {outer : List Env} {s s1 : Shared} {H : Hp} {E : XK} {us : List Value} {vs : List V}
    (S : FnScope N ps scope) (hd : A.handled = none) (e0 : Env0 P w K mg base A outer s H) (hl : vs.length = ps.length) (r : Vals vs us)
    (x : InCallC s s.heap.objs.size (bindL (envOfC qual scope s.heap.objs.size f cd).kindOf (ps.zip us) fun _=>none) (cellsFrom (s.heap.objs.size + 1) scope.names []) (bindC (envOfC qual scope s.heap.objs.size f cd).kindOf (ps.zip us) fun _=>none) s1) :
    Inv (cxOf CX P w K mg base N qual scope f cd A outer s H E) [] (start N vs) H s1:=by
  have hpl : ps.length <= N.length:=by have:=congrArg List.length S.pre; rw [List.length_take] at this; omega
  obtain ⟨h1,tk,rfl,hk⟩:=x.done
  have noA : ∀ b : Addr,b ∉ (cxOf CX P w K mg base N qual scope f cd A outer s H E).ex:=fun b z=>absurd (show b ∈ ([] : List Addr) from z) (by simp)
  refine ⟨⟨e0.mod,S.kind,rfl,rfl,Nat.le_refl _,fun y z c h1 h2=>?_,fun y hy=>?_,fun y c _ h=>?_,fun _=>hd,Around.frames_deeper e0.frames,.inr ⟨rfl,rfl⟩,fun b z=>absurd z (noA b),e0.bs,e0.bsz,fun b _ _=>noA b,fun b z=>absurd z (noA b),e0.funs,e0.frf⟩,
    rfl,e0.bare,Un.kept hk,⟨_,x.toInCall.ns,fun i y v h1 h2 h3=>?_⟩,fun y c h=>⟨_,x.cell y c h⟩,e0.hok.fresh (Nat.le_refl _),fun y c h=>?_,fun p hp=>absurd (show p ∈ ([] : List (Addr × Obj)) from hp) (by simp),e0.hok.kept hk,?_⟩
  · exact name_of_addr x.apart (PySem.mem_of_lookup h1) (PySem.mem_of_lookup h2)
  · have hy : scope.names.lookup y = some .cell \/ scope.names.lookup y = some .free:=hy
    rcases hy with hy | hy
    · exact cell_has hy
    · exact absurd rfl (S.nofree _ (PySem.mem_of_lookup hy))
  · exact Nat.le_of_lt (x.above y c (PySem.mem_of_lookup h))
  · have hi : i < vs.length:=by
      unfold start at h2
      by_cases hi : i < vs.length
      · exact hi
      · rw [List.getElem?_append_right (by simpa using hi)] at h2
        rw [List.getElem?_replicate] at h2
        split at h2 <;> cases h2
    have ha : vs[i]? = some v:=by
      unfold start at h2
      rw [List.getElem?_append_left (by simpa using hi),List.getElem?_map] at h2
      cases e : vs[i]? with
      | none=>rw [e] at h2; cases h2
      | some a=>rw [e] at h2; cases h2; rfl
    obtain ⟨u,hu,rv⟩:=r.get ha
    have hp : ps[i]? = some y:=by
      rw [<- S.pre,List.getElem?_take_of_lt (by omega)]; exact h1
    have ndP : ps.Nodup:=by rw [<- S.pre]; exact S.nd.sublist (List.take_sublist _ _)
    refine ⟨u,rv,?_⟩
    rcases S.par y (List.mem_of_getElem? hp) with k | k
    · exact .inl ⟨k,bindL_get ndP hp hu k⟩
    · obtain ⟨c,e⟩:=cell_has (n:=s.heap.objs.size + 1) k
      refine .inr ⟨.inl k,c,e,?_⟩
      have q:=x.cell y c e
      rw [bindC_get ndP hp hu (by show scope.names.lookup y ≠ _; rw [k]; decide)] at q
      exact q
  · exact e0.hok.fresh (Nat.le_of_lt (x.above y c (PySem.mem_of_lookup h)))
  · unfold start
    show _ = N.length
    rw [List.length_append,List.length_map,List.length_replicate]
    omega
theorem fn_of {CX : CXT} {P : Program} {w : World} {K : PySem.W.Frag} {mg : Str -> Option Value} {base : Heap} {k : Nat} {f : Addr} {name qual : Str} {params : Arguments} {body : List Stmt} {scope : Scope} {dV kV doc pm cdv ct oc : Value} {an od : Option Addr}
    {osl : Array (Option Value)} {N ps : List Str} {sp : Sp} (lk : K.lookup f = some ⟨oc,od,.func (PySem.W.fnOf name qual params body scope dV kV doc pm an cdv ct),osl⟩) (hcd : PySem.W.codeIn K cdv qual = true) (S : FnScope N ps scope)
    (len : ∀ vs H Q E,sp vs H Q E -> vs.length = ps.length)
    (hbody : ∀ (A : Around) (outer : List Env) (s : Shared) (H : Hp) (vs : List V) (Q : VK) (E : XK),Room k (A.deeper (envOfC qual scope s.heap.objs.size f cdv)) -> sp vs H Q E ->
      ∃ t,PSs (cxOf CX P w K mg base N qual scope f cdv A outer s H E) body t /\ t { nx:=fun _ H'=>Q .non H',rt:=Q } (start N vs) H) :
    FnOk P w K mg base CX (k + 1) f (PySem.W.fnOf name qual params body scope dV kV doc pm an cdv ct) ps sp:=by
  refine ⟨len,fun A outer s H args us vs Q E hr e0 hb r hsp=>?_⟩
  have hl:=len _ _ _ _ hsp
  have KX : K.In s.heap:=e0.mod.kin.keeps fun b o e=>(e0.bs b o e).1
  have lim : s.heap.NoLimit:=e0.mod.nolimit.keeps fun b o e=>(e0.bs b o e).1
  have hkind : ∀ y ∈ ps.zip us,scope.names.lookup y.1 = some .local \/ (scope.names.lookup y.1 = some .cell /\ ((cellsFrom (s.heap.objs.size + 1) scope.names []).lookup y.1).isSome = true):=fun ⟨n,v⟩ hy=>by
    rcases S.par n (List.of_mem_zip hy).1 with q | q
    · exact .inl q
    · exact .inr ⟨q,PySem.W.cellsFrom_some _ _ _ (.inl q)⟩
  refine codeAny_call_function hr.depth (KX _ _ lk) rfl S.co S.gen rfl (PySem.W.codeRec_of KX hcd) (hb _ _ _ _ ?_)
  refine wpAny_newFunctionEnv_cells S.kind hkind fun env he s1 x=>?_
  subst he
  refine ⟨lim.keeps x.toInCall.keep,codeAny_func ?_⟩
  obtain ⟨t,ht,hq⟩:=hbody A outer s H vs Q E (hr.deeper _) hsp
  have I : Inv (cxOf CX P w K mg base N qual scope f cdv A outer s H E) [] (start N vs) H s1:=inv_start S hr.hd e0 hl r x
  refine wpAny_mono (ht [] s1 (start N vs) H _ I hq) (fun fl s' hs=>?_) fun e s' hs=>hs
  have fin : ∀ {σ' : St} {H' : Hp} {v : V} {u : Value},Inv (cxOf CX P w K mg base N qual scope f cdv A outer s H E) [] σ' H' s' -> RelV v u -> Q v H' -> CE outer P w H s Q u s':=
    fun {σ' H' v u} J rv q=>⟨v,H',J.os,J.bare,J.base,J.hok,rv,q⟩
  cases fl with
  | ret u=>
    obtain ⟨v,σ',H',J,rv,q⟩:=hs
    exact fin J rv q
  | next=>
    obtain ⟨σ',H',J,q⟩:=hs
    exact fin (v:=V.non) (u:=Value.none) J rfl q
  | brk=>
    obtain ⟨_,_,_,q⟩:=hs
    exact False.elim q
  | cont=>
    obtain ⟨_,_,_,q⟩:=hs
    exact False.elim q
end L2
namespace L2
open PySem PySem.Spec PyProof.Rows
section
variable {X : Cx} {x : Str} {p pos : Pos} {e : Expr} {es : List Expr} {t : TA} {id T : String} {r : List V -> Hp -> VK -> Prop}
def tCB (r : List V -> Hp -> VK -> Prop) (t : TA) : TE:=fun σ H Q=>t σ H fun vs H1=>r vs H1 Q
theorem pe_callB (hc : CallR X (.builtin id) r) (hg : Gl X x) (hm : X.mg x = none) (hv : bootBuiltins x = some (.builtin id)) (ha : PA X (e :: es) t) (hn : x ≠ "__name__" := by decide) (hdb : (x == ("__debug__" : Str)) = false:=by decide)
    (he : starEach (e :: es) X.env = (false,eval e X.env) :: starEach es X.env:=by rfl) (hpl : (backTo pos (starEach es X.env)).any (·.1) = false:=by rfl) : PE X (.Call (.Name x p) (e :: es) [] pos) (tCB r t):=by
  intro pins s σ H Q I h
  refine wpAny_Call_Name_kw (ld_blt I hg hm hv ?_ hn hdb)
  exact PyProof.Rows.callWith_builtin1 (thn (ha pos pins s σ H _ I h) fun us s1 ⟨vs,H1,I1,r1,q1⟩=>hc pins s1 σ H1 vs us Q I1 r1 q1) he hpl
theorem pe_callTy (hc : CallR X (.type T) r) (hg : Gl X x) (hm : X.mg x = none) (hv : bootBuiltins x = some (.type T)) (ha : PA X (e :: es) t) (hn : x ≠ "__name__" := by decide) (hdb : (x == ("__debug__" : Str)) = false:=by decide)
    (he : starEach (e :: es) X.env = (false,eval e X.env) :: starEach es X.env:=by rfl) (hpl : (backTo pos (starEach es X.env)).any (·.1) = false:=by rfl) : PE X (.Call (.Name x p) (e :: es) [] pos) (tCB r t):=by
  intro pins s σ H Q I h
  refine wpAny_Call_Name_kw (ld_blt I hg hm hv ?_ hn hdb)
  exact PyProof.Rows.callWith_type1 (thn (ha pos pins s σ H _ I h) fun us s1 ⟨vs,H1,I1,r1,q1⟩=>hc pins s1 σ H1 vs us Q I1 r1 q1) he hpl
end
end L2
namespace HT
open PySem PyProof.Rows
def lexLt : List Int -> List Int -> Bool
  | [],[]=>false
  | [],_ :: _=>true
  | _ :: _,[]=>false
  | x :: xs,y :: ys=>if x = y then lexLt xs ys else decide (x < y)
theorem lexLt_cons (x y : Int) (xs ys : List Int) : lexLt (x :: xs) (y :: ys) = if x = y then lexLt xs ys else decide (x < y):=rfl
theorem lexLt_nil_nil : lexLt [] [] = false:=rfl
theorem lexLt_nil_cons (y : Int) (ys : List Int) : lexLt [] (y :: ys) = true:=rfl
theorem lexLt_cons_nil (x : Int) (xs : List Int) : lexLt (x :: xs) [] = false:=rfl
theorem eqAt_int (A : Around) (s : Shared) (a : Int) (t : Tok) (c : Int) (u : Tok) : ∃ e,SeqAt.EqAt A s (.int a t) (.int c u) e /\ (e = true <-> a = c):=
  ⟨(a == c),SeqAt.EqAt.int_int a t c u,by simp⟩
theorem rcLt_int (A : Around) (s : Shared) (a : Int) (t : Tok) (c : Int) (u : Tok) (prog : Program) (w : World) (E : Value -> Shared -> Prop) (Q : Value -> Shared -> Prop) (h : Q (.bool (decide (a < c))) s) :
    wpAny (model prog w) A (richCompare .Lt (.int a t) (.int c u)) Q E s:=
  (PyProof.Rows.lt_int h : wpAny (model prog w) A (compareOp .Lt (.int a t) (.int c u)) Q E s)
section
open PySem.SeqAt
open PySem.AutoSeq1 (wpAny_loadPart')
open PySem.MeetsSeq PySem.MeetsSeq2 PySem.MeetsSeq3
theorem tuple_lt_ints (l b : Addr) (items items2 : Array Value) (n n2 : Nat) (dd dd2 : Option Addr) (sl sl2 : Array (Option Value)) (ns ms : List Int) (hi : IntsAre items.toList ns) (hj : IntsAre items2.toList ms) :
    Meets (Builtin.«tuple.__lt__» ⟨[.ref l,.ref b],[]⟩)
      (fun _ R s=>s.heap.get? l = some { cls:=.type "tuple",dict:=dd,data:=.seq items n,slots:=sl } /\ s.heap.get? b = some { cls:=.type "tuple",dict:=dd2,data:=.seq items2 n2,slots:=sl2 } /\
        R (.ok (.ret (.bool (lexLt ns ms)))) s):=
  .of_wp fun prog w A R s h=>by
    obtain ⟨hp,g,d,tk,os⟩:=s; obtain ⟨hl,hb,h⟩:=h
    have f2:=AutoSeq1.sub_tuple_tuple
    have z1 : items.size = ns.length:=by rw [<- hi.length]; simp
    have z2 : items2.size = ms.length:=by rw [<- hj.length]; simp
    wp_walk using wpAny_loadPart' hl,wpAny_loadPart' hb,wpAny_forIn_list _ (fun rest b s'=>b.1 = none /\ s' = ⟨hp,g,d,tk,os⟩ /\ ∃ (vs ws : List Value) (ns' ms' : List Int),rest = vs.zip ws /\
      IntsAre vs ns' /\ IntsAre ws ms' /\ ns'.length + items2.size = ms'.length + items.size /\ R (.ok (.ret (.bool (lexLt ns' ms')))) ⟨hp,g,d,tk,os⟩) _
    case turn=>
      rintro ⟨y,x⟩ rest b s' ⟨hb',rfl,vs,ws,ns',ms',hz,hvi,hwi,hlen,hR⟩
      cases hvi with
      | nil=>rw [List.zip_nil_left] at hz; cases hz
      | cons a t hvi'=>
        cases hwi with
        | nil=>rw [List.zip_nil_right] at hz; cases hz
        | cons c u hwi'=>
          rw [List.zip_cons_cons] at hz
          injection hz with hyx hrest
          injection hyx with hy hx
          subst hy hx
          rw [lexLt_cons] at hR
          simp only [List.length_cons] at hlen
          obtain ⟨e,he,hiff⟩:=eqAt_int A.in1 ⟨hp,g,d,tk,os⟩ a t c u
          refine wpAny_bind (he prog w _ _ ?_)
          cases e with
          | true=>
            rw [if_pos (hiff.mp rfl)] at hR
            wp_walk
            exact ⟨rfl,rfl,_,_,_,_,hrest,hvi',hwi',by omega,hR⟩
          | false=>
            rw [if_neg (fun q=>absurd (hiff.mpr q) Bool.false_ne_true)] at hR
            have hri:=rcLt_int A.in1 ⟨hp,g,d,tk,os⟩ a t c u prog w
            wp_walk using hri
            exact ⟨_,rfl,by simpa using hR⟩
    case fin=>
      rintro ⟨b1,b2⟩ s' ⟨hb',rfl,vs,ws,ns',ms',hz,hvi,hwi,hlen,hR⟩
      simp only at hb'
      subst hb'
      have hv : lexLt ns' ms' = decide (items.size < items2.size):=by
        cases hvi with
        | nil=>
          cases hwi with
          | nil=>
            simp only [List.length_nil] at hlen
            rw [lexLt_nil_nil]
            exact (decide_eq_false (by omega)).symm
          | cons c u hw=>
            simp only [List.length_nil,List.length_cons] at hlen
            rw [lexLt_nil_cons]
            exact (decide_eq_true (by omega)).symm
        | cons a t hv=>
          cases hwi with
          | nil=>
            simp only [List.length_nil,List.length_cons] at hlen
            rw [lexLt_cons_nil]
            exact (decide_eq_false (by omega)).symm
          | cons c u hw=>
            rw [List.zip_cons_cons] at hz
            cases hz
      rw [hv] at hR
      wp_walk
      exact ⟨_,rfl,by simpa [Builtin.Tuple.tupleCompareSizes] using hR⟩
    case h=>
      exact ⟨rfl,rfl,items.toList,items2.toList,ns,ms,rfl,hi,hj,by omega,h⟩
end
section
variable {prog : Program} {w : World} {A : Around} {E : Value -> Shared -> Prop} {s : Shared}
theorem lt_tupInts {l b : Addr} {items items2 : Array Value} {ns ms : List Int} {Q : Value -> Shared -> Prop} (hl : IsTup s.heap l items) (hb : IsTup s.heap b items2) (hi : IntsAre items.toList ns) (hj : IntsAre items2.toList ms)
    (hu : A.units < cLine) (h : Q (.bool (lexLt ns ms)) s) : wpAny (model prog w) A (compareOp .Lt (.ref l) (.ref b)) Q E s:=by
  obtain ⟨⟨cls,dd,data,sl⟩,ho,hc,n,hd⟩:=id hl
  obtain ⟨⟨cls2,dd2,data2,sl2⟩,ho2,hc2,n2,hd2⟩:=id hb
  simp only at hc hd hc2 hd2
  subst hc hd hc2 hd2
  exact richCompare_meets_room (op:=.Lt) ⟨_,ho,rfl⟩ ⟨_,ho2,rfl⟩ PySem.F.slot_tuple_lt PySem.F.entry_tuple_lt (PySem.F.args_tuple_lt_2 _ _) (tuple_lt_ints l b items items2 n n2 dd dd2 sl sl2 ns ms hi hj)
    ⟨ho,ho2,show Value.bool (lexLt ns ms) ≠ Value.notImplemented /\ Q (.bool (lexLt ns ms)) s from ⟨(fun x=>nomatch x),h⟩⟩ hu
theorem cat_tup {t b : Addr} {vs ws : List Value} {Q : Value -> Shared -> Prop} (ht : IsTup s.heap t vs.toArray) (hb : IsTup s.heap b ws.toArray) (hv : vs ≠ [])
    (h1 : ws = [] -> Q (.ref t) s) (h2 : ws ≠ [] -> Q (.ref s.heap.objs.size) { s with heap:=s.heap.push { cls:=.type "tuple",data:=.seq (vs ++ ws).toArray } })
    (hsz : vs.length + ws.length <= sizeLine) : wpAny (model prog w) A (binaryOp .Add (.ref t) (.ref b)) Q E s:=by
  obtain ⟨⟨cls,dd,data,sl⟩,ho,hc,n,hd⟩:=id ht
  obtain ⟨⟨cls2,dd2,data2,sl2⟩,ho2,hc2,n2,hd2⟩:=id hb
  simp only at hc hd hc2 hd2
  subst hc hd hc2 hd2
  have e : vs.toArray ++ ws.toArray = (vs ++ ws).toArray:=by simp
  by_cases hw : ws = []
  · exact concat_meets ⟨_,ho,rfl⟩ ⟨_,ho2,rfl⟩ noFill_tuple_add seq_tuple_add PySem.F.slot_tuple_add PySem.F.entry_tuple_add (PySem.F.args_tuple_add_2 _ _)
      (tuple_addW1 t b vs.toArray ws.toArray n n2 dd dd2 sl sl2 (by simpa using hv) (by simp [hw])) ⟨ho,ho2,h1 hw⟩
  · refine concat_meets ⟨_,ho,rfl⟩ ⟨_,ho2,rfl⟩ noFill_tuple_add seq_tuple_add PySem.F.slot_tuple_add PySem.F.entry_tuple_add (PySem.F.args_tuple_add_2 _ _)
      (tuple_addW2 t b vs.toArray ws.toArray n n2 dd dd2 sl sl2 (by simpa using hv) (by simpa using hw) (by rw [List.size_toArray,List.size_toArray]; exact hsz)) ⟨ho,ho2,?_⟩
    rw [e]
    exact h2 hw
def sIx (n d : Nat) : Option Int -> Nat
  | none=>d
  | some v=>if v < 0 then (v + (n : Int)).toNat else min v.toNat n
theorem sIx_none (n d : Nat) : sIx n d none = d:=rfl
theorem sIx_nat (n d k : Nat) : sIx n d (some (k : Int)) = min k n:=by
  show (if (k : Int) < 0 then ((k : Int) + (n : Int)).toNat else min (k : Int).toNat n) = min k n
  rw [if_neg (by omega),Int.toNat_natCast]
theorem sIx_le (n d : Nat) (hd : d <= n) (o : Option Int) : sIx n d o <= n:=by
  cases o with
  | none=>exact hd
  | some v=>
    show (if v < 0 then (v + (n : Int)).toNat else min v.toNat n) <= n
    by_cases hv : v < 0
    · rw [if_pos hv]; omega
    · rw [if_neg hv]; exact Nat.min_le_right _ _
theorem clip_eq (v : Int) (n d : Nat) : (if v < 0 then max (v + (n : Int)) 0 else min v (n : Int)) = ((sIx n d (some v) : Nat) : Int):=by
  show (if v < 0 then max (v + (n : Int)) 0 else min v (n : Int)) = (((if v < 0 then (v + (n : Int)).toNat else min v.toNat n) : Nat) : Int)
  by_cases hv : v < 0
  · simp only [if_pos hv]; omega
  · simp only [if_neg hv]; omega
theorem adjust_gen (lo hi : Option Int) (n : Nat) : Builtin.Slice.sliceAdjust lo hi 1 (n : Int) = (((sIx n 0 lo : Nat) : Int),((sIx n n hi : Nat) : Int)):=by
  have h1 : ¬ ((1 : Int) < 0):=by omega
  unfold Builtin.Slice.sliceAdjust
  simp only [h1,if_false]
  refine Prod.ext ?_ ?_
  · cases lo with
    | none=>rfl
    | some v=>exact clip_eq v n 0
  · cases hi with
    | none=>rfl
    | some v=>exact clip_eq v n n
theorem places_gen (i j : Nat) : Builtin.Slice.slicePlaces (i : Int) (j : Int) 1 = j - i:=by
  unfold Builtin.Slice.slicePlaces
  have h1 : (1 : Int) > 0:=by omega
  simp only [h1,if_true,Int.ediv_one]
  split <;> omega
theorem slicePart_ {v : Value} {o : Option Int} {Q : Option Int -> Shared -> Prop} (p : IsPart v o) (h : Q o s) : wpAny (model prog w) A (Builtin.Slice.slicePartIndex v) Q E s:=by
  cases p with
  | none=>exact slicePart_none h
  | int i t=>exact slicePart_int h
theorem sliceApplied_gen {sl : Addr} {vl vu : Value} {lo hi : Option Int} {n : Nat} {Q : Int × Int × Nat -> Shared -> Prop} (hs : s.heap.IsSliceOf sl vl vu .none) (pl : IsPart vl lo) (pu : IsPart vu hi)
    (h : Q (((sIx n 0 lo : Nat) : Int),1,sIx n n hi - sIx n 0 lo) s) : wpAny (model prog w) A (Builtin.Slice.sliceApplied (.ref sl) (pure (n : Int))) Q E s:=by
  obtain ⟨os,hos,hcs,hds⟩:=id hs
  unfold Builtin.Slice.sliceApplied Builtin.Slice.sliceFields
  refine wpAny_bind (wpAny_bind (wpAny_field hos hds (x:=vl) rfl (wpAny_bind (wpAny_field hos hds (x:=vu) rfl (wpAny_bind (wpAny_field hos hds (x:=.none) rfl (wpAny_pure ?_)))))))
  refine wpAny_bind (slicePart_none ?_)
  show wpAny _ _ (if ((1 : Int) == 0) = true then _ else _) _ _ s
  rw [if_neg (by decide)]
  refine wpAny_bind (slicePart_ pl (wpAny_bind (slicePart_ pu (wpAny_bind (wpAny_pure ?_)))))
  show wpAny _ _ (match Builtin.Slice.sliceAdjust lo hi 1 (n : Int) with | (lo,hi)=>pure (lo,(1 : Int),Builtin.Slice.slicePlaces lo hi 1)) _ _ s
  rw [adjust_gen lo hi n]
  show wpAny _ _ (pure (((sIx n 0 lo : Nat) : Int),(1 : Int),Builtin.Slice.slicePlaces ((sIx n 0 lo : Nat) : Int) ((sIx n n hi : Nat) : Int) 1)) _ _ s
  rw [places_gen]
  exact wpAny_pure h
theorem pick_gen (xs : Array Value) (i k : Nat) : ((List.range k).filterMap fun (m : Nat)=>xs[((i : Int) + (m : Int) * 1).toNat]?).toArray = ((xs.toList.drop i).take k).toArray:=by
  have e : (fun (m : Nat)=>xs[((i : Int) + (m : Int) * 1).toNat]?) = fun m=>xs[i + m]?:=by
    funext m
    have : ((i : Int) + (m : Int) * 1).toNat = i + m:=by omega
    rw [this]
  rw [e]
  have:=pick_run xs i k
  rw [List.filterMap_map] at this
  have e2 : ((fun x=>xs[x]?) ∘ fun x=>i + x) = fun m=>xs[i + m]?:=rfl
  rw [e2] at this
  rw [this]
theorem getItem_tuple_cut {t sl : Addr} {items : Array Value} {vl vu : Value} {lo hi : Option Int} {Q : Value -> Shared -> Prop} (ht : IsTup s.heap t items) (hs : s.heap.IsSliceOf sl vl vu .none) (pl : IsPart vl lo) (pu : IsPart vu hi)
    (hw : ¬ (sIx items.size 0 lo = 0 /\ sIx items.size items.size hi = items.size))
    (h : Q (.ref s.heap.objs.size) { s with heap:=s.heap.push { cls:=.type "tuple",data:=.seq ((items.toList.drop (sIx items.size 0 lo)).take (sIx items.size items.size hi - sIx items.size 0 lo)).toArray } })
    (hsz : items.size <= sizeLine) : wpAny (model prog w) A (getItem (.ref t) (.ref sl)) Q E s:=by
  have htake : sizeOk (.seq ((items.toList.drop (sIx items.size 0 lo)).take (sIx items.size items.size hi - sIx items.size 0 lo)).toArray):=by
    show ((items.toList.drop (sIx items.size 0 lo)).take (sIx items.size items.size hi - sIx items.size 0 lo)).toArray.size <= sizeLine
    rw [List.size_toArray,List.length_take,List.length_drop,Array.length_toList]
    omega
  have hj : sIx items.size items.size hi <= items.size:=sIx_le _ _ (Nat.le_refl _) hi
  obtain ⟨os,hos,hcs,hds⟩:=id hs
  have hTs : s.TypeIs (.ref sl) "slice" := ⟨os,hos,hcs⟩
  unfold getItem
  try with_reducible refine wpAny_holding ?_
  first | refine wpAny_bind (wpAny_pure ?_) | skip
  refine wpAny_bind (wpAny_sequenceKey ht.typeIs (by decide) ?_)
  refine wpAny_bind (wpAny_callSpecial?_slot (name:=Str.ofString "__getitem__") ht.typeIs PyProof.Rows.slot_tuple_getitem
    (wpAny_call_entry PyProof.Rows.slot_tuple_getitem ht.typeIs entry_tuple_getitem ?_ (args_tuple_getitem _ _)))
  show wpAny _ _ (Builtin.Tuple.tupleItemsOf (.ref t) >>= _) _ _ s
  refine wpAny_bind (tupleItemsOf_ ht ?_)
  refine wpAny_bind (wpAny_typeOf hTs ?_)
  rw [if_pos (by decide)]
  refine wpAny_bind (sliceApplied_gen hs pl pu ?_)
  have hno : ¬ ((((sIx items.size 0 lo : Nat) : Int) == 0 && (1 : Int) == 1 && (sIx items.size items.size hi - sIx items.size 0 lo) == items.size) = true):=by
    intro q
    rw [Bool.and_eq_true,Bool.and_eq_true] at q
    have q1 : ((sIx items.size 0 lo : Nat) : Int) = 0:=eq_of_beq q.1.1
    have q2 : sIx items.size items.size hi - sIx items.size 0 lo = items.size:=eq_of_beq q.2
    exact hw ⟨by omega,by omega⟩
  show wpAny _ _ (if (((sIx items.size 0 lo : Nat) : Int) == 0 && (1 : Int) == 1 && (sIx items.size items.size hi - sIx items.size 0 lo) == items.size) = true then _ else _) _ _ s
  rw [if_neg hno,pick_gen]
  first
    | exact wpAny_bind (m:=Builtin.Tuple.tupleExact _) (wpAny_newObj_type (wpAny_pure ⟨_,rfl,wpAny_pure h⟩) htake)
    | exact wpAny_bind (m:=Builtin.Tuple.tupleExact _) (wpAny_newObj_type (wpAny_bind (wpAny_pure (wpAny_pure ⟨_,rfl,wpAny_pure h⟩))) htake)
    | exact wpAny_bind (wpAny_bind (m:=Builtin.Tuple.tupleExact _) (wpAny_newObj_type (wpAny_pure (wpAny_pure ⟨_,rfl,wpAny_pure h⟩)) htake))
    | exact wpAny_bind (wpAny_bind (m:=Builtin.Tuple.tupleExact _) (wpAny_newObj_type (wpAny_pure ⟨_,rfl,wpAny_pure h⟩) htake))
end
end HT
namespace L2
open PySem PySem.Spec PyProof.Rows
abbrev TO:=St -> Hp -> (Option Int -> Hp -> Prop) -> Prop
def PO (X : Cx) (e : Option Expr) (t : TO) : Prop:=
  ∀ (pins : List (Addr × Obj)) (s : Shared) (σ : St) (H : Hp) (Q : Option Int -> Hp -> Prop),Inv X pins σ H s -> t σ H Q ->
    wpAny (model X.prog X.w) X.A (evalPart e X.env) (fun u s'=>∃ o H',Inv X pins σ H' s' /\ IsPart u o /\ Q o H') X.xe s
def tNoPart : TO:=fun _ H Q=>Q none H
def tPart (t : TE) : TO:=fun σ H Q=>t σ H fun x H1=>∃ i,x = .int i /\ Q (some i) H1
theorem intsAre_of {ns : List Int} : ∀ {us : List Value},Vals (ns.map V.int) us -> IntsAre us ns:=by
  induction ns with
  | nil=>intro us r; rw [List.map_nil] at r; cases r; exact .nil
  | cons n ns ih=>
    intro us r
    rw [List.map_cons] at r
    cases r with
    | cons r1 r2=>
      obtain ⟨t,e⟩:=r1
      subst e
      exact .cons n t (ih r2)
section
variable {X : Cx} {e : Expr} {te : TE} {lo hi : Option Expr} {tl th : TO} {pos p2 : Pos}
theorem po_none : PO X none tNoPart:=by
  intro pins s σ H Q I h
  rw [evalPart_none]
  exact wpAny_pure ⟨none,H,I,.none,h⟩
theorem po_some (h : PE X e te) : PO X (some e) (tPart te):=by
  intro pins s σ H Q I hw
  rw [evalPart_some]
  refine thn (h pins s σ H _ I hw) fun u s1 ⟨x,H1,I1,r1,q1⟩=>?_
  obtain ⟨i,rfl,q⟩:=q1
  obtain ⟨t,rfl⟩:=r1
  exact ⟨some i,H1,I1,.int i t,q⟩
def SlR (X : Cx) (r : V -> Option Int -> Option Int -> Hp -> VK -> Prop) : Prop:=
  ∀ (pins : List (Addr × Obj)) (s : Shared) (σ : St) (H : Hp) (x : V) (v vl vu : Value) (lo hi : Option Int) (sl : Addr) (Q : VK),Inv X pins σ H s -> RelV x v -> s.heap.IsSliceOf sl vl vu .none -> IsPart vl lo -> IsPart vu hi -> r x lo hi H Q ->
    ∃ T id,typeLookup (.type T) "__getitem__" = pure (some (.builtin id)) /\ s.TypeIs v T /\ wpAny (model X.prog X.w) X.A (getItem v (.ref sl)) (EP X pins σ Q) X.xe s
theorem SlR.or {r r' : V -> Option Int -> Option Int -> Hp -> VK -> Prop} (h : SlR X r) (h' : SlR X r') : SlR X (fun x lo hi H Q=>r x lo hi H Q \/ r' x lo hi H Q):=by
  intro pins s σ H x v vl vu lo hi sl Q I rx hs pl pu q
  rcases q with q | q
  · exact h pins s σ H x v vl vu lo hi sl Q I rx hs pl pu q
  · exact h' pins s σ H x v vl vu lo hi sl Q I rx hs pl pu q
def tSl (r : V -> Option Int -> Option Int -> Hp -> VK -> Prop) (te : TE) (tl th : TO) : TE:=fun σ H Q=>te σ H fun x H1=>tl σ H1 fun l H2=>th σ H2 fun u H3=>r x l u H3 Q
theorem pe_slice {r : V -> Option Int -> Option Int -> Hp -> VK -> Prop} (hr : SlR X r) (he : PE X e te) (hl : PO X lo tl) (hu : PO X hi th) : PE X (.Subscript e (.Slice lo hi none p2) pos) (tSl r te tl th):=by
  intro pins s σ H Q I h
  refine Subscript_ (thn (he pins s σ H _ I h) fun v s1 ⟨x,H1,I1,r1,q1⟩=>?_)
  refine wpAny_Slice (thn (hl pins s1 σ H1 _ I1 q1) fun vl s2 ⟨l,H2,I2,pl,q2⟩=>thn (hu pins s2 σ H2 _ I2 q2) fun vu s3 ⟨u,H3,I3,pu,q3⟩=>?_)
  rw [evalPart_none]
  refine wpAny_pure ?_
  have I4 : Inv X pins σ H3 { s3 with heap:=s3.heap.push { cls:=.type "slice",data:=.fields #[vl,vu,.none] } }:=I3.kept (t':=s3.toks) fun b ob q=>Heap.get?_push_of_some _ q
  obtain ⟨T,id,hT,ht,hg⟩:=hr pins { s3 with heap:=s3.heap.push { cls:=.type "slice",data:=.fields #[vl,vu,.none] } } σ H3 x v vl vu l u s3.heap.objs.size Q I4 r1 (Heap.IsSliceOf.new ..) pl pu q3
  show wpAny (model X.prog X.w) X.A (subscriptTail e (.Slice lo hi none p2) v (.ref s3.heap.objs.size)) (EP X pins σ Q) X.xe { s3 with heap:=s3.heap.push { cls:=.type "slice",data:=.fields #[vl,vu,.none] } }
  exact tail_any (ops:=[.ref s3.heap.objs.size,v]) ht hT hg (by with_unfolding_all rfl)
def cutV (xs : List V) (lo hi : Option Int) : List V:=(xs.drop (HT.sIx xs.length 0 lo)).take (HT.sIx xs.length xs.length hi - HT.sIx xs.length 0 lo)
theorem cutV_length (xs : List V) (lo hi : Option Int) : (cutV xs lo hi).length <= xs.length:=by
  unfold cutV
  rw [List.length_take,List.length_drop]
  omega
def rSlT (K : PySem.W.Frag) : V -> Option Int -> Option Int -> Hp -> VK -> Prop:=fun x lo hi H Q=>∃ a xs,x = .ref a /\ SqT K H a xs /\
  ¬ (HT.sIx xs.length 0 lo = 0 /\ HT.sIx xs.length xs.length hi = xs.length) /\ ∀ p,H p = none -> Q (.ref p) (upd H p (.tup (cutV xs lo hi)))
theorem sl_tup : SlR X (rSlT X.K):=by
  intro pins s σ H x v vl vu lo hi sl Q I rx hs pl pu h
  obtain ⟨a,xs,rfl,hx,hw,q⟩:=h
  cases rx
  obtain ⟨its,r,ht,hz⟩:=I.tuple hx
  have hlen : its.toArray.size = xs.length:=by rw [List.size_toArray]; exact r.length.symm
  refine ⟨"tuple",_,PyProof.Rows.slot_tuple_getitem.lookup,ht.typeIs,?_⟩
  refine HT.getItem_tuple_cut ht hs pl pu (by rw [hlen]; exact hw) ?_ (by rw [hlen]; exact hz)
  rw [hlen]
  refine ⟨.ref s.heap.objs.size,_,I.laid (t':=s.toks) (o:=.tup (cutV xs lo hi)) (fun b ob q=>Heap.get?_push_of_some _ q) (Nat.le_refl _) ?_,rfl,q _ (I.hok.fresh (Nat.le_refl _))⟩
  exact ⟨Nat.le_trans (cutV_length xs lo hi) hz,_,(r.drop (HT.sIx xs.length 0 lo)).take (HT.sIx xs.length xs.length hi - HT.sIx xs.length 0 lo),IsTup.new _ _⟩
def rLtT (K : PySem.W.Frag) : R2:=fun x y H Q=>∃ a b ns ms,x = .ref a /\ y = .ref b /\ SqT K H a (ns.map V.int) /\ SqT K H b (ms.map V.int) /\ Q (.bl (HT.lexLt ns ms)) H
theorem op_ltT (hu : X.A.units < cLine) : OpR X (compareOp .Lt) (rLtT X.K):=by
  intro pins s σ H x y v u Q I rx ry h
  obtain ⟨a,b,ns,ms,rfl,rfl,ha,hb,q⟩:=h
  cases rx
  cases ry
  obtain ⟨its,r1,p1,_⟩:=I.tuple ha
  obtain ⟨its2,r2,p2,_⟩:=I.tuple hb
  have i1 : IntsAre its.toArray.toList ns:=intsAre_of r1
  have i2 : IntsAre its2.toArray.toList ms:=intsAre_of r2
  exact HT.lt_tupInts p1 p2 i1 i2 hu ⟨.bl (HT.lexLt ns ms),H,I,rfl,q⟩
def rCatT (K : PySem.W.Frag) : R2:=fun x y H Q=>∃ a b xs ys,x = .ref a /\ y = .ref b /\ SqT K H a xs /\ SqT K H b ys /\ xs ≠ [] /\ xs.length + ys.length <= sizeLine /\
  (ys = [] -> Q (.ref a) H) /\ (ys ≠ [] -> ∀ p,H p = none -> Q (.ref p) (upd H p (.tup (xs ++ ys))))
theorem Vals.nil_iff {xs : List V} {us : List Value} (r : Vals xs us) : us = [] <-> xs = []:=by
  cases r with
  | nil=>simp
  | cons _ _=>simp
theorem op_catT : OpR X (binaryOp .Add) (rCatT X.K):=by
  intro pins s σ H x y v u Q I rx ry h
  obtain ⟨a,b,xs,ys,rfl,rfl,ha,hb,hx,hz,q1,q2⟩:=h
  cases rx
  cases ry
  obtain ⟨its,r1,p1,_⟩:=I.tuple ha
  obtain ⟨its2,r2,p2,_⟩:=I.tuple hb
  refine HT.cat_tup p1 p2 (fun z=>hx (r1.nil_iff.mp z)) (fun z=>⟨.ref a,H,I,rfl,q1 (r2.nil_iff.mp z)⟩) (fun z=>?_) (by rw [<- r1.length,<- r2.length]; exact hz)
  refine ⟨.ref s.heap.objs.size,_,I.laid (t':=s.toks) (o:=.tup (xs ++ ys)) (fun b ob q=>Heap.get?_push_of_some _ q) (Nat.le_refl _) ?_,rfl,q2 (fun w=>z (r2.nil_iff.mpr w)) _ (I.hok.fresh (Nat.le_refl _))⟩
  exact ⟨by rw [List.length_append]; exact hz,_,r1.append r2,IsTup.new _ _⟩
end
end L2
namespace L2
open PySem PySem.Spec PyProof.Rows
def ixN (n : Nat) (i : Int) : Option Nat:=if 0 <= i then (if i < n then some i.toNat else none) else if -(n : Int) <= i then some (i + n).toNat else none
def atI {α : Type} (xs : List α) (i : Int) : Option α:=(ixN xs.length i).bind fun j=>xs[j]?
theorem ixN_seq {n : Nat} {i : Int} {j : Nat} (h : ixN n i = some j) : seqIndex? i n = some j /\ j < n /\ -(n : Int) <= i /\ i < n:=by
  unfold ixN at h
  by_cases h0 : 0 <= i
  · rw [if_pos h0] at h
    by_cases h1 : i < n
    · rw [if_pos h1] at h
      have e : i.toNat = j:=Option.some.inj h
      exact ⟨by rw [seqIndex_of h0 h1,e],by omega,by omega,h1⟩
    · rw [if_neg h1] at h; cases h
  · rw [if_neg h0] at h
    by_cases h1 : -(n : Int) <= i
    · rw [if_pos h1] at h
      have e : (i + n).toNat = j:=Option.some.inj h
      exact ⟨by rw [seqIndex_neg (by omega) h1,e],by omega,h1,by omega⟩
    · rw [if_neg h1] at h; cases h
theorem atI_get {α : Type} {xs : List α} {i : Int} {v : α} (h : atI xs i = some v) : ∃ j,seqIndex? i xs.length = some j /\ xs[j]? = some v /\ j < xs.length /\ -(xs.length : Int) <= i /\ i < xs.length:=by
  unfold atI at h
  cases e : ixN xs.length i with
  | none=>rw [e] at h; cases h
  | some j=>
    rw [e] at h
    obtain ⟨h1,h2,h3,h4⟩:=ixN_seq e
    exact ⟨j,h1,h,h2,h3,h4⟩
def PlainIx (b : Expr) : Prop:=∀ o i,subscripted b false o i = operate [o,i] (getItem o i)
def IxR (X : Cx) (r : R2) : Prop:=
  ∀ (value slice : Expr) (pins : List (Addr × Obj)) (s : Shared) (σ : St) (H : Hp) (x y : V) (v u : Value) (Q : VK),Inv X pins σ H s -> RelV x v -> RelV y u -> r x y H Q ->
    subscripted slice false v u = operate [v,u] (getItem v u) -> wpAny (model X.prog X.w) X.A (subscriptTail value slice v u) (EP X pins σ Q) X.xe s
def MtR (X : Cx) (id : String) (r : V -> List V -> Hp -> VK -> Prop) : Prop:=
  ∀ (pins : List (Addr × Obj)) (s : Shared) (σ : St) (H : Hp) (x : V) (xs : List V) (v : Value) (us : List Value) (Q : VK),Inv X pins σ H s -> RelV x v -> Vals xs us -> r x xs H Q ->
    wpAny (model X.prog X.w) X.A (call (.builtin id) (v :: us)) (EP X pins σ Q) X.xe s
section
variable {X : Cx} {a b : Expr} {ta tb : TE} {pos : Pos}
theorem IxR.or {r r' : R2} (h : IxR X r) (h' : IxR X r') : IxR X (fun x y H Q=>r x y H Q \/ r' x y H Q):=by
  intro value slice pins s σ H x y v u Q I rx ry q hs
  rcases q with q | q
  · exact h value slice pins s σ H x y v u Q I rx ry q hs
  · exact h' value slice pins s σ H x y v u Q I rx ry q hs
theorem pe_ix {r : R2} (hr : IxR X r) (ha : PE X a ta) (hb : PE X b tb) (hs : PlainIx b) : PE X (.Subscript a b pos) (tOp r ta tb):=by
  intro pins s σ H Q I h
  exact Subscript_ (binT ha hb I h fun v u s2 x y H2 I2 rx ry q=>hr a b pins s2 σ H2 x y v u Q I2 rx ry q (hs _ _))
def rIxL (K : PySem.W.Frag) : R2:=fun x y H Q=>∃ p xs i v,x = .ref p /\ y = .int i /\ SqL K H p xs /\ atI xs i = some v /\ Q v H
def rIxT (K : PySem.W.Frag) : R2:=fun x y H Q=>∃ p xs i v,x = .ref p /\ y = .int i /\ SqT K H p xs /\ atI xs i = some v /\ Q v H
def rIxS : R2:=fun x y H Q=>∃ z i c,x = .str z /\ y = .int i /\ z.length <= sizeLine /\ atI z.cps.toList i = some c /\ Q (.str ⟨#[c]⟩) H
theorem ix_list : IxR X (rIxL X.K):=by
  intro value slice pins s σ H x y v u Q I rx ry h hs
  obtain ⟨p,xs,i,z,rfl,rfl,hq,he,q⟩:=h
  cases rx
  obtain ⟨t,rfl⟩:=ry
  obtain ⟨its,r,pl,hz⟩:=I.list hq
  obtain ⟨j,h1,h2,h3,h4,h5⟩:=atI_get he
  obtain ⟨w,ew,rw'⟩:=r.get h2
  have hl:=r.length
  have hn:=line63
  have fin : EP X pins σ Q w s:=⟨z,H,I,rw',q⟩
  by_cases h0 : 0 <= i
  · have hj : i.toNat = j:=by
      rw [seqIndex_of h0 h5] at h1
      exact Option.some.inj h1
    exact item_listR pl.isList h0 (by omega) (by rw [hj]; simpa using ew) fin hs
  · have hj : (i + (its.toArray.size : Int)).toNat = j:=by
      rw [seqIndex_neg (by omega) h4] at h1
      rw [List.size_toArray,<- hl]
      exact Option.some.inj h1
    exact subscriptTail_builtinR (x:=w) pl.isList.typeIs slot_list_getitem.lookup
      (wpAny_getItem_list_neg (Q:=fun r s'=>r = w /\ EP X pins σ Q r s') pl.isList (by omega) (by rw [List.size_toArray] <;> omega) (by omega) (by rw [hj]; simpa using ew) ⟨rfl,fin⟩) hs
theorem ix_tup : IxR X (rIxT X.K):=by
  intro value slice pins s σ H x y v u Q I rx ry h hs
  obtain ⟨p,xs,i,z,rfl,rfl,hq,he,q⟩:=h
  cases rx
  obtain ⟨t,rfl⟩:=ry
  obtain ⟨its,r,pl,hz⟩:=I.tuple hq
  obtain ⟨j,h1,h2,h3,h4,h5⟩:=atI_get he
  obtain ⟨w,ew,rw'⟩:=r.get h2
  have hl:=r.length
  have hn:=line63
  have fin : EP X pins σ Q w s:=⟨z,H,I,rw',q⟩
  exact subscriptTail_builtinR (x:=w) pl.typeIs slot_tuple_getitem.lookup
    (getItem_tuple (j:=j) (Q:=fun r s'=>r = w /\ EP X pins σ Q r s') pl (by omega) (by omega) (by rw [List.size_toArray,<- hl]; exact h1) (by simpa using ew) ⟨rfl,fin⟩) hs
theorem ix_str : IxR X rIxS:=by
  intro value slice pins s σ H x y v u Q I rx ry h hs
  obtain ⟨z,i,c,rfl,rfl,hz,he,q⟩:=h
  obtain ⟨t,rfl⟩:=rx
  obtain ⟨t',rfl⟩:=ry
  obtain ⟨j,h1,h2,h3,h4,h5⟩:=atI_get he
  have hl : z.cps.toList.length = z.length:=by simp [Str.length]
  rw [hl] at h1 h4 h5
  have hn:=line63
  exact tail_any (typeIs_str s z t) slot_str_getitem.lookup (getItem_str (c:=c) (by
    have e1 : decide (i < -(2 ^ 63 : Int)) = false:=decide_eq_false (by omega)
    have e2 : decide (i >= 2 ^ 63) = false:=decide_eq_false (by omega)
    rw [e1,e2,Bool.or_false]) (by rw [h1]; simpa using h2) ⟨.str ⟨#[c]⟩,H,I.tok _,⟨_,rfl⟩,q⟩) hs
def rIx (K : PySem.W.Frag) : R2:=fun x y H Q=>rIxL K x y H Q \/ rIxT K x y H Q \/ rIxS x y H Q
theorem ix_seq : IxR X (rIx X.K):=ix_list.or (ix_tup.or ix_str)
theorem mapSeq_set (its : List Value) (n j : Nat) (u : Value) : Obj.mapSeq (·.setIfInBounds j u) { cls:=.type "list",data:=.seq its.toArray n } = { cls:=.type "list",data:=.seq (its.set j u).toArray n }:=by
  simp [Obj.mapSeq]
theorem Inv.lst {pins : List (Addr × Obj)} {σ : St} {H : Hp} {s : Shared} {p : Addr} {xs : List V} (I : Inv X pins σ H s) (h : H p = some (.lst xs)) :
    ∃ (its : List Value) (n : Nat),Vals xs its /\ s.heap.get? p = some { cls:=.type "list",data:=.seq its.toArray n } /\ xs.length <= sizeLine:=by
  obtain ⟨z,its,n,r,e⟩:=I.hok p _ h
  exact ⟨its,n,r,e,z⟩
theorem Inv.lstUpd {pins : List (Addr × Obj)} {σ : St} {H : Hp} {s : Shared} {p : Addr} {xs ys : List V} {its its' : List Value} {n n' : Nat} {f : Obj -> Obj} (I : Inv X pins σ H s) (h : H p = some (.lst xs))
    (ho : s.heap.get? p = some { cls:=.type "list",data:=.seq its.toArray n }) (hf : f { cls:=.type "list",data:=.seq its.toArray n } = { cls:=.type "list",data:=.seq its'.toArray n' }) (r : Vals ys its') (hz : ys.length <= sizeLine) (t : Nat) :
    Inv X pins σ (upd H p (.lst ys)) { s with heap:=s.heap.update p f,toks:=t }:=by
  have e : (s.heap.update p f).get? p = some { cls:=.type "list",data:=.seq its'.toArray n' }:=by
    rw [Heap.get?_update_self f ho (by rw [hf] <;> rfl),hf]
  refine I.write (x:=p) (e:=p) (by rw [h]; trivial) (.inl rfl) (fun b u hb q=>(Heap.get?_update_other _ _ (Ne.symm hb)).trans q) ⟨_,e⟩ ?_
  exact ⟨hz,its',n',r,e⟩
def rSetL : V -> V -> V -> Hp -> (Hp -> Prop) -> Prop:=fun o i v H Q=>∃ p xs k j,o = .ref p /\ i = .int k /\ H p = some (.lst xs) /\ ixN xs.length k = some j /\ Q (upd H p (.lst (xs.set j v)))
theorem set_list : PSet X rSetL:=by
  intro pins s σ H o i v ov iv u Q I ro ri rv h
  obtain ⟨p,xs,k,j,rfl,rfl,hp,hj,q⟩:=h
  cases ro
  obtain ⟨t,rfl⟩:=ri
  obtain ⟨its,n,r,ho,hz⟩:=I.lst hp
  obtain ⟨h1,h2,h3,h4⟩:=ixN_seq hj
  have hl:=r.length
  have hn:=line63
  have I' : Inv X pins σ (upd H p (.lst (xs.set j v))) { s with heap:=s.heap.update p (Obj.mapSeq (·.setIfInBounds j u)) }:=
    I.lstUpd hp ho (mapSeq_set its n j u) (r.set rv j) (by rw [List.length_set]; exact hz) s.toks
  by_cases h0 : 0 <= k
  · have hk : k.toNat = j:=by
      rw [seqIndex_of h0 h4] at h1
      exact Option.some.inj h1
    exact PySem.W.ki_setAt ho h0 (by omega) (by rw [List.size_toArray,<- hl]; exact h4) (by rw [hk]; exact ⟨_,I',q⟩)
  · have hk : (k + (its.toArray.size : Int)).toNat = j:=by
      rw [seqIndex_neg (by omega) h3] at h1
      rw [List.size_toArray,<- hl]
      exact Option.some.inj h1
    exact PySem.W.ki_setBack ho (by omega) (by rw [List.size_toArray,<- hl]; exact h3) (by omega) (by rw [hk]; exact ⟨_,I',q⟩)
theorem slice_bounds (lo hi : Option Int) (n : Nat) : (sliceBounds lo hi none n).1 = ((HT.sIx n 0 lo : Nat) : Int) /\ (sliceBounds lo hi none n).2.1 = ((HT.sIx n n hi : Nat) : Int) /\ (sliceBounds lo hi none n).2.2 = 1:=by
  refine ⟨?_,?_,rfl⟩
  · cases lo with
    | none=>simp [sliceBounds,HT.sIx]
    | some i=>
      simp only [sliceBounds,HT.sIx,Option.getD_none,show (1 : Int) > 0 by decide,if_true]
      by_cases h : i < 0
      · simp only [h,if_true] <;> omega
      · simp only [h,if_false] <;> omega
  · cases hi with
    | none=>simp [sliceBounds,HT.sIx]
    | some i=>
      simp only [sliceBounds,HT.sIx,Option.getD_none,show (1 : Int) > 0 by decide,if_true]
      by_cases h : i < 0
      · simp only [h,if_true] <;> omega
      · simp only [h,if_false] <;> omega
theorem slicePick_cut (its : List Value) (lo hi : Option Int) : slicePick its.toArray lo hi none = ((its.drop (HT.sIx its.length 0 lo)).take (HT.sIx its.length its.length hi - HT.sIx its.length 0 lo)).toArray:=by
  obtain ⟨h1,h2,h3⟩:=slice_bounds lo hi its.toArray.size
  unfold slicePick
  rw [h1,h2,h3]
  simp only [sliceRange_one,pick_run,List.size_toArray] <;> rfl
def rSlL (K : PySem.W.Frag) : V -> Option Int -> Option Int -> Hp -> VK -> Prop:=fun x lo hi H Q=>∃ a xs,x = .ref a /\ SqL K H a xs /\ ∀ p,H p = none -> Q (.ref p) (upd H p (.lst (cutV xs lo hi)))
theorem sl_list : SlR X (rSlL X.K):=by
  intro pins s σ H x v vl vu lo hi sl Q I rx hs pl pu h
  obtain ⟨a,xs,rfl,hx,q⟩:=h
  cases rx
  obtain ⟨its,r,ht,hz⟩:=I.list hx
  have hlen:=r.length
  refine ⟨"list",_,slot_list_getitem.lookup,ht.isList.typeIs,?_⟩
  refine wpAny_getItem_list_slice ht.isList hs pl pu .none (by simp) ?_ (by rw [List.size_toArray] <;> omega)
  rw [slicePick_cut,<- hlen]
  refine ⟨.ref s.heap.objs.size,_,I.laid (t':=s.toks) (o:=.lst (cutV xs lo hi)) (fun b ob q=>Heap.get?_push_of_some _ q) (Nat.le_refl _) ?_,rfl,q _ (I.hok.fresh (Nat.le_refl _))⟩
  exact ⟨Nat.le_trans (cutV_length xs lo hi) hz,_,0,(r.drop (HT.sIx xs.length 0 lo)).take (HT.sIx xs.length xs.length hi - HT.sIx xs.length 0 lo),Heap.get?_push_size _ rfl⟩
theorem call_len_seq : CallR X (.builtin "len") (fun xs H Q=>∃ p ys,xs = [.ref p] /\ (SqL X.K H p ys \/ SqT X.K H p ys) /\ Q (.int ys.length) H):=by
  intro pins s σ H xs us Q I r h
  obtain ⟨p,ys,rfl,hq,q⟩:=h
  obtain ⟨u,rfl,rx⟩:=vals1 r
  cases rx
  have hn:=line63
  rcases hq with hq | hq
  · obtain ⟨its,r',pl,hz⟩:=I.list hq
    have hlen:=r'.length
    exact Calls.call_len_list pl.isList (by simp only [List.size_toArray] <;> omega) ⟨.int ys.length,H,I.tok _,⟨s.toks + 1,by rw [List.size_toArray,hlen]⟩,q⟩
  · obtain ⟨its,r',pl,hz⟩:=I.tuple hq
    have hlen:=r'.length
    exact len_tuple pl (by simp only [List.size_toArray] <;> omega) ⟨.int ys.length,H,I.tok _,⟨s.toks + 1,by rw [List.size_toArray,hlen]⟩,q⟩
theorem call_len_str : CallR X (.builtin "len") (fun xs H Q=>∃ z,xs = [.str z] /\ z.length <= sizeLine /\ Q (.int z.length) H):=by
  intro pins s σ H xs us Q I r h
  obtain ⟨z,rfl,hz,q⟩:=h
  obtain ⟨u,rfl,t,rfl⟩:=vals1 r
  have hn:=line63
  exact len_str (by omega) ⟨.int z.length,H,I.tok _,⟨_,rfl⟩,q⟩
theorem call_list_of : CallR X (.type "list") (fun xs H Q=>∃ p ys,xs = [.ref p] /\ (SqL X.K H p ys \/ SqT X.K H p ys) /\ ∀ l,H l = none -> Q (.ref l) (upd H l (.lst ys))):=by
  intro pins s σ H xs us Q I r h
  obtain ⟨p,ys,rfl,hq,q⟩:=h
  obtain ⟨u,rfl,rx⟩:=vals1 r
  cases rx
  have fin : ∀ (its : List Value),Vals ys its -> ys.length <= sizeLine -> ∀ (h' : Heap) (c' : Nat),(∀ b o',s.heap.get? b = some o' -> h'.get? b = some o') ->
      h'.get? s.heap.objs.size = some { cls:=.type "list",dict:=none,data:=.seq its.toArray c',slots:=#[] } -> EP X pins σ Q (.ref s.heap.objs.size) { s with heap:=h' }:=fun its r' hz h' c' kp e=>
    ⟨.ref s.heap.objs.size,_,I.laid (t':=s.toks) kp (Nat.le_refl _) (show ObjOk X.prog X.w _ h' _ (.lst ys) from ⟨hz,its,c',r',e⟩),rfl,q _ (I.hok.fresh (Nat.le_refl _))⟩
  rcases hq with hq | hq
  · obtain ⟨its,r',pl,hz⟩:=I.list hq
    have hlen:=r'.length
    obtain ⟨o,ho,hc,n,hd⟩:=pl.isList
    exact call_list_seq p (.inl rfl) ho hc hd (fun h' c' kp e=>fin its r' hz h' c' kp e) (by simp only [List.size_toArray] <;> omega)
  · obtain ⟨its,r',pl,hz⟩:=I.tuple hq
    have hlen:=r'.length
    obtain ⟨o,ho,hc,n,hd⟩:=pl
    exact call_list_seq p (.inr rfl) ho hc hd (fun h' c' kp e=>fin its r' hz h' c' kp e) (by simp only [List.size_toArray] <;> omega)
theorem call_tuple_of : CallR X (.type "tuple") (fun xs H Q=>∃ p ys,xs = [.ref p] /\ ((SqL X.K H p ys /\ ∀ l,H l = none -> Q (.ref l) (upd H l (.tup ys))) \/ (SqT X.K H p ys /\ Q (.ref p) H))):=by
  intro pins s σ H xs us Q I r h
  obtain ⟨p,ys,rfl,h⟩:=h
  obtain ⟨u,rfl,rx⟩:=vals1 r
  cases rx
  rcases h with ⟨hq,q⟩ | ⟨hq,q⟩
  · obtain ⟨its,r',pl,hz⟩:=I.list hq
    have hlen:=r'.length
    refine call_tuple_list pl.isList (fun h' kp=>?_) (by simp only [List.size_toArray] <;> omega)
    have I1 : Inv X pins σ H { s with heap:=h' }:=I.kept (t':=s.toks) kp
    have I2 : Inv X pins σ (upd H h'.objs.size (.tup ys)) { s with heap:=h'.push { cls:=.type "tuple",data:=.seq its.toArray } }:=
      I1.laid (t':=s.toks) (fun b o e=>Heap.get?_push_of_some _ e) (Nat.le_refl _) (show ObjOk X.prog X.w _ _ _ (.tup ys) from ⟨hz,its,r',IsTup.new _ _⟩)
    exact ⟨.ref h'.objs.size,_,I2,rfl,q _ (I1.hok.fresh (Nat.le_refl _))⟩
  · obtain ⟨its,r',pl,hz⟩:=I.tuple hq
    exact call_tuple_same pl ⟨.ref p,H,I,rfl,q⟩
def tyV (K : PySem.W.Frag) (T : String) (x : V) (H : Hp) : Prop:=match x with
  | .str _=>T = "str"
  | .int _=>T = "int"
  | .ref p=>(T = "list" /\ ∃ xs,SqL K H p xs) \/ (T = "tuple" /\ ∃ o,K.lookup p = some o /\ o.cls = .type "tuple" /\ o.dict = none) \/
      (T = "dict" /\ ((∃ kvs,H p = some (.dK kvs)) \/ ∃ kvs,H p = some (.dT kvs))) \/ (T = "set" /\ ∃ S n,H p = some (.set S n))
  | _=>False
theorem tyV_is {pins : List (Addr × Obj)} {σ : St} {H : Hp} {s : Shared} {T : String} {x : V} {v : Value} (I : Inv X pins σ H s) (r : RelV x v) (ty : tyV X.K T x H) :
    s.TypeIs v T /\ ∀ a,v = .ref a -> ∃ ob,s.heap.get? a = some ob /\ ob.dict = none:=by
  cases x with
  | str z=>
    obtain ⟨t,rfl⟩:=r
    cases (show T = "str" from ty)
    exact ⟨typeIs_str s z t,fun _ e=>nomatch e⟩
  | int i=>
    obtain ⟨t,rfl⟩:=r
    cases (show T = "int" from ty)
    exact ⟨typeIs_int s i t,fun _ e=>nomatch e⟩
  | ref p=>
    cases r
    rcases ty with ⟨rfl,xs,hq⟩ | ⟨rfl,o,hk,hc,hd⟩ | ⟨rfl,hk⟩ | ⟨rfl,S,n,hk⟩
    · obtain ⟨its,_,pl,_⟩:=I.list hq
      refine ⟨pl.isList.typeIs,fun a e=>?_⟩
      cases e
      obtain ⟨o,n,e,c,hd,_⟩:=pl
      exact ⟨o,e,hd⟩
    · refine ⟨⟨o,I.kIn p o hk,hc⟩,fun a e=>?_⟩
      cases e
      exact ⟨o,I.kIn _ o hk,hd⟩
    · have z : ∃ o,s.heap.get? p = some o /\ o.ExactDict:=by
        rcases hk with ⟨kvs,hk⟩ | ⟨kvs,hk⟩
        · obtain ⟨_,_,_,_,o,_,_,e,ex,_⟩:=I.hok p _ hk
          exact ⟨o,e,ex⟩
        · obtain ⟨_,_,_,_,o,_,_,e,ex,_⟩:=I.hok p _ hk
          exact ⟨o,e,ex⟩
      obtain ⟨o,e,ex⟩:=z
      refine ⟨⟨o,e,ex.1⟩,fun a e2=>?_⟩
      cases e2
      exact ⟨o,e,ex.2.1⟩
    · obtain ⟨o,_,_,_,e,ex,_⟩:=I.hok p _ hk
      refine ⟨⟨o,e,ex.1⟩,fun a e2=>?_⟩
      cases e2
      exact ⟨o,e,ex.2.1⟩
  | _=>exact False.elim ty
def tBM (K : PySem.W.Frag) (T : String) (r : V -> List V -> Hp -> VK -> Prop) (to : TE) (t : TA) : TE:=fun σ H Q=>to σ H fun x H1=>tyV K T x H1 /\ t σ H1 fun xs H2=>r x xs H2 Q
variable {o e : Expr} {es : List Expr} {to : TE} {t : TA} {name : Str} {apos cpos : Pos} {T id : String} {r : V -> List V -> Hp -> VK -> Prop}
theorem pe_bm (pa : PlainAttrs T) (slot : Slot T name id) (hty : typeOf (.builtin id) = pure (.type "method_descriptor")) (hm : MtR X id r) (ho : PE X o to) (ha : PA X (e :: es) t)
    (hbase : attributeBase o name X.env (eval o X.env) = eval o X.env:=by rfl)
    (hfew : ((backTo cpos (starEach (e :: es) X.env)).all (fun x=>!x.1) && (backToKw cpos (keywordEach [] X.env)).all (fun x=>x.1.isSome)
      && decide ((e :: es).length + ([] : List Keyword).length + (if ([] : List Keyword).isEmpty then 0 else 1) < 30)) = true:=by rfl)
    (hline : (apos.endLine == cpos.line) = true:=by rfl) (hs : starEach (e :: es) X.env = (false,eval e X.env) :: starEach es X.env:=by rfl) (hplain : (backTo cpos (starEach es X.env)).any (·.1) = false:=by rfl) :
    PE X (.Call (.Attribute o name apos) (e :: es) [] cpos) (tBM X.K T r to t):=by
  intro pins s σ H Q I h
  refine wpAny_Call_method_late hbase hfew hline rfl (thn (ho pins s σ H _ I h) fun v s1 ⟨x,H1,I1,r1,ty,q1⟩=>?_)
  obtain ⟨h1,h2⟩:=tyV_is I1 r1 ty
  refine ⟨T,id,pa,slot,hty,h1,h2,?_⟩
  have hA:=ha cpos pins s1 σ H1 _ I1 q1
  rw [hs] at hA ⊢
  refine Calls.callWith_builtin (by show (false || (backTo cpos (starEach es X.env)).any (·.1)) = false; rw [hplain] <;> rfl) (Calls.evalArgs_plain ?_)
  exact thn hA fun us s2 ⟨vs,H2,I2,r2,q2⟩=>hm pins s2 σ H2 x vs v us Q I2 r1 r2 q2
end
end L2
namespace L2
open PySem PySem.Spec PyProof.Rows
def MtM (X : Cx) (id : String) (r : V -> List V -> Hp -> VK -> Prop) : Prop:=
  ∀ (pins : List (Addr × Obj)) (s : Shared) (σ : St) (H : Hp) (x : V) (xs : List V) (v : Value) (us : List Value) (Q : VK),Inv X pins σ H s -> RelV x v -> Vals xs us -> r x xs H Q ->
    wpAny (model X.prog X.w) X.A (call (.builtin id) (v :: us)) (EP X pins σ Q) X.xe s
theorem Vals.one : ∀ {x : V} {us : List Value},Vals [x] us -> ∃ u,us = [u] /\ RelV x u
  | _,_,.cons r .nil=>⟨_,rfl,r⟩
theorem Vals.rep {xs : List V} {us : List Value} (h : Vals xs us) : ∀ k : Nat,Vals (List.replicate k xs).flatten (List.replicate k us).flatten
  | 0=>.nil
  | k + 1=>by
    rw [List.replicate_succ,List.replicate_succ,List.flatten_cons,List.flatten_cons]
    exact Vals.append h (Vals.rep h k)
theorem foldl_rep (its : List Value) : ∀ (k : Nat) (acc : List Value),
    List.foldl (fun x1 x2=>x1 ++ x2) acc.toArray (List.replicate k its.toArray) = (acc ++ (List.replicate k its).flatten).toArray
  | 0,acc=>by simp
  | k + 1,acc=>by
    have e : acc.toArray ++ its.toArray = (acc ++ its).toArray:=by simp
    have e2 : (acc ++ its) ++ (List.replicate k its).flatten = acc ++ (List.replicate (k + 1) its).flatten:=by
      rw [List.replicate_succ,List.flatten_cons,List.append_assoc]
    rw [<- e2,<- foldl_rep its k (acc ++ its),<- e,List.replicate_succ,List.foldl_cons]
section
variable {X : Cx} {pins : List (Addr × Obj)} {σ : St} {H : Hp} {s : Shared} {l b : Addr} {xs ys zs : List V}
theorem Inv.lset {its its' : List Value} {n : Nat} {f : Array Value -> Array Value} {t' : Nat} (I : Inv X pins σ H s) (hH : H l = some (.lst xs))
    (e : s.heap.get? l = some { cls:=.type "list",data:=.seq its.toArray n }) (hf : f its.toArray = its'.toArray) (hv : Vals ys its') (hz : ys.length <= sizeLine) :
    Inv X pins σ (upd H l (.lst ys)) { s with heap:=s.heap.update l (Obj.mapSeq f),toks:=t' }:=by
  have q:=PySem.IsL.update e f
  rw [hf] at q
  refine I.write (x:=l) (e:=l) (by rw [hH]; exact trivial) (.inl rfl) (fun b' u hb hu=>(Heap.get?_update_other s.heap (Obj.mapSeq f) (Ne.symm hb)).trans hu) ⟨_,q⟩ ?_
  exact ⟨hz,its',_,hv,q⟩
theorem Inv.lnew {its : List Value} {t' : Nat} (I : Inv X pins σ H s) (hv : Vals ys its) (hz : ys.length <= sizeLine) :
    Inv X pins σ (upd H s.heap.objs.size (.lst ys)) { s with heap:=s.heap.push { cls:=.type "list",data:=.seq its.toArray },toks:=t' }:=
  I.laid (fun _ _ q=>Heap.get?_push_of_some _ q) (Nat.le_refl _) ⟨hz,its,0,hv,Heap.get?_push_size _ rfl⟩
theorem Inv.fresh (I : Inv X pins σ H s) : H s.heap.objs.size = none:=I.hok.fresh (Nat.le_refl _)
theorem Inv.lstM (I : Inv X pins σ H s) (hH : H l = some (.lst xs)) : xs.length <= sizeLine /\ ∃ (its : List Value) (n : Nat),Vals xs its /\ xs.length = its.length /\ s.heap.get? l = some { cls:=.type "list",data:=.seq its.toArray n }:=by
  obtain ⟨z,its,n,r,e⟩:=I.hok l _ hH
  exact ⟨z,its,n,r,r.length,e⟩
theorem notLongL {n : Nat} (h : n <= sizeLine) : Builtin.List.listTooLong n = false:=by
  unfold Builtin.List.listTooLong
  exact decide_eq_false (by omega)
end
section
variable {X : Cx}
def rAppend : V -> List V -> Hp -> VK -> Prop:=fun x vs H Q=>∃ l xs y,x = .ref l /\ vs = [y] /\ H l = some (.lst xs) /\ xs.length < sizeLine /\ Q .non (upd H l (.lst (xs ++ [y])))
theorem mt_append : MtM X "list.append" rAppend:=by
  intro pins s σ H x vs v us Q I rx rv h
  obtain ⟨l,xs,y,rfl,rfl,hH,hz,q⟩:=h
  cases rx
  obtain ⟨u,rfl,ru⟩:=rv.one
  obtain ⟨z,its,n,r,hl,e⟩:=I.lstM hH
  refine call_meets F.slot_list_append ⟨_,e,rfl⟩ F.entry_list_append (F.args_list_append_2 _ _) (PySem.list_append l its.toArray n u (by rw [List.size_toArray]; omega)) ⟨e,?_⟩
  refine ⟨.non,_,I.lset (its':=its ++ [u]) hH e (by simp) (r.append (.cons ru .nil)) ?_,rfl,q⟩
  rw [List.length_append,List.length_singleton]
  omega
def rCat : R2:=fun x y H Q=>∃ l b xs zs,x = .ref l /\ y = .ref b /\ H l = some (.lst xs) /\ H b = some (.lst zs) /\ xs.length + zs.length <= sizeLine /\ ∀ p,H p = none -> Q (.ref p) (upd H p (.lst (xs ++ zs)))
theorem op_cat : OpR X (binaryOp .Add) rCat:=by
  intro pins s σ H x y v u Q I rx ry h
  obtain ⟨l,b,xs,zs,rfl,rfl,hH,hB,hz,q⟩:=h
  cases rx
  cases ry
  obtain ⟨z,its,n,r,hl,e⟩:=I.lstM hH
  obtain ⟨z2,its2,n2,r2,hl2,e2⟩:=I.lstM hB
  refine PySem.P.add_list e e2 ?_ (by rw [List.size_toArray,List.size_toArray]; omega)
  have ea : its.toArray ++ its2.toArray = (its ++ its2).toArray:=by simp
  rw [ea]
  exact ⟨.ref _,_,I.lnew (t':=s.toks) (r.append r2) (by rw [List.length_append]; omega),rfl,q _ I.fresh⟩
def rRep : R2:=fun x y H Q=>∃ l k xs,x = .ref l /\ y = .int k /\ H l = some (.lst xs) /\ -(2 ^ 63) <= k /\ k < 2 ^ 63 /\ xs.length * k.toNat <= sizeLine /\
  ∀ p,H p = none -> Q (.ref p) (upd H p (.lst (List.replicate k.toNat xs).flatten))
theorem len_rep {α : Type} (xs : List α) (k : Nat) : (List.replicate k xs).flatten.length = k * xs.length:=by
  induction k with
  | zero=>simp
  | succ k ih=>rw [List.replicate_succ,List.flatten_cons,List.length_append,ih,Nat.succ_mul,Nat.add_comm]
theorem op_rep : OpR X (binaryOp .Mult) rRep:=by
  intro pins s σ H x y v u Q I rx ry h
  obtain ⟨l,k,xs,rfl,rfl,hH,h1,h2,hz,q⟩:=h
  cases rx
  obtain ⟨t,rfl⟩:=ry
  obtain ⟨z,its,n,r,hl,e⟩:=I.lstM hH
  have hlen : its.toArray.size * k.toNat <= sizeLine:=by rw [List.size_toArray,<- hl]; exact hz
  have hcap : ¬ its.toArray.size * k.toNat > (2 ^ 63 - 1) / 8:=by
    have : (sizeLine : Nat) <= (2 ^ 63 - 1) / 8:=by decide
    omega
  have hfit : ¬ (!Builtin.List.listFitsIndex k) = true:=by
    rw [fitsIndex_both h1 h2]
    exact Bool.false_ne_true
  have hlong : ¬ Builtin.List.listTooLong (its.toArray.size * k.toNat) = true:=by
    rw [notLongL hlen]
    exact Bool.false_ne_true
  have hnew : List.foldl (fun x1 x2=>x1 ++ x2) #[] (List.replicate (if its.toArray.isEmpty = true then 0 else k.toNat) its.toArray) = (List.replicate k.toNat its).flatten.toArray:=by
    have f0 : ∀ m : Nat,List.foldl (fun x1 x2=>x1 ++ x2) #[] (List.replicate m its.toArray) = (List.replicate m its).flatten.toArray:=fun m=>by
      have:=foldl_rep its m []
      rw [List.nil_append] at this
      exact this
    rw [f0]
    cases its with
    | nil=>simp
    | cons a r'=>rw [if_neg (by simp)]
  refine wpAny_binaryOp_repeat_ref (T := "list") (U := "int") (by decide) ⟨_,e,rfl⟩ (fun s'=>typeIs_int s' k t) noFill_list_mul F.fills_int_mul F.slot_int_rmul repeat_list F.slot_int_index.lookup
    (call_meets F.slot_int_rmul (typeIs_int s k t) F.entry_int_rmul (F.args_int_rmul_2 _ _) (int___rmul___int_list k t l its.toArray n)
      ⟨e,rfl,⟨_,e,rfl⟩,call_meets F.slot_list_mul ⟨_,e,rfl⟩ F.entry_list_mul (F.args_list_mul_2 _ _) (AutoListH.list___mul___list_int_3 l its.toArray n k t hfit hcap hlong) ⟨e,?_⟩⟩)
  rw [hnew]
  exact ⟨.ref _,_,I.lnew (t':=s.toks) (r.rep k.toNat) (by rw [len_rep,Nat.mul_comm]; exact hz),rfl,q _ I.fresh⟩
end
section
variable {prog : Program} {w : World} {A : Around} {E : Value -> Shared -> Prop} {s : Shared}
end
section
variable {X : Cx}
end
end L2
namespace Att
open PySem PySem.W PySem.Calls PyProof.Rows
theorem ints_of_wellAll {P : Params} {h : Heap} : ∀ (ns : List Int) (vs : List Value),WellAll P h vs (ns.map WData.int) -> IntsAre vs ns:=by
  intro ns
  induction ns with
  | nil=>
    intro vs w
    rw [List.map_nil] at w
    cases w
    exact .nil
  | cons n ns ih=>
    intro vs w
    rw [List.map_cons] at w
    cases w with
    | cons a b=>
      cases a
      exact .cons _ _ (ih _ b)
theorem script_of {l : OpenLaw} {n : Nat} (hn : l.most = some n) {P : Params} {h : Heap} {args : List WData} {vals : List Value}
    (hpre : l.row.toRowW.claim.pre args = true) (hwl : WellAll P h vals args) :
    ∃ a vs ns,vals = [Value.ref a] /\ args = [WData.list (ns.map WData.int)] /\ h.get? a = some { cls:=.type "list",data:=.seq vs.toArray } /\ IntsAre vs ns /\ ns.length <= n:=by
  have hsh : WShape.hasAll [] args [.list .int] = true:=(pre_splitW hpre).1
  have hc : l.pre.holds [] { args:=args } = true:=(pre_splitW hpre).2
  obtain ⟨d,r,rfl,h1,h2⟩:=hasAllW_cons hsh
  obtain rfl:=hasAllW_nil h2
  obtain ⟨xs,rfl,h3⟩:=hasW_list h1
  obtain ⟨ns,rfl⟩:=items_int h3
  have hlen : ns.length <= n:=by
    unfold OpenLaw.pre at hc
    have h4 : (WTm.not (.lt (.lit (.int (n : Int))) (.len (.arg 0)))).holds [] { args:=[.list (ns.map .int)] } = true:=by
      have h4:=(holds_andW hc).1
      rw [hn] at h4
      exact h4
    have h5:=condW_of h4 (w_not (w_lt w_lit (w_len_list (w_arg rfl))))
    rw [List.length_map] at h5
    refine Nat.le_of_not_lt fun q=>?_
    have q' : (n : Int) < ((ns.length : Nat) : Int):=by omega
    first
      | (rw [decide_eq_true q'] at h5; exact absurd h5 (by decide))
      | (simp at h5; omega)
  cases hwl with
  | cons w1 w2=>
    cases w2
    cases w1 with
    | list ho hall=>exact ⟨_,_,ns,rfl,rfl,ho,ints_of_wellAll ns _ hall,hlen⟩
theorem post_true (l : OpenLaw) (args : List WData) : l.row.toRowW.claim.post args (.bool true) args = true:=
  postW_of (r:=l.row.toRowW) (X:=(true == true))
    (show WShape.has [] (.bool true) .bool = true by first | rfl | decide | simp [WShape.has,WShape.arms,WShape.armsAll])
    (show (WTm.eq .res (.lit (.bool true))).value [] { args:=args,res:=some (.bool true),after:=args } = some (.bool (true == true)) from w_eq_bool (w_res rfl) w_lit) rfl
theorem attach_call {l : OpenLaw} {n : Nat} {q : Program} {loose : List Str} {XP : (Str -> Option Value) -> Heap -> Prop} {YP : World -> Heap -> Prop} {d : DefRec}
    (hn : l.most = some n) (hdf : d.params.defaults = [])
    (call : ∀ (w : World) (s₀ s₁ : Shared) (mg mb : Str -> Option Value) (fa : Addr) (o : Obj) (pm cd doc : Value) (a : Addr) (vs : List Value) (ns : List Int),
      Ground q loose [] XP w s₀ mg mb s₁.heap -> YP w s₁.heap ->
      s₁.heap.get? fa = some o -> o.data = .func (docDef d.name d.params d.body d.scope pm cd doc) -> s₁.heap.CodeRec cd d.name -> mg d.name = some (.ref fa) ->
      s₁.heap.get? a = some { cls:=.type "list",data:=.seq vs.toArray } -> IntsAre vs ns -> ns.length <= n -> s₁.gens = #[] ->
      codeAny (model l.prog w) callerA (.call (.ref fa) ⟨[.ref a],[]⟩) (fun r s'=>r = .ok (.ret (.bool true)) /\ OldK s₁.heap s'.heap /\ s'.os = s₁.os /\ AllBare s'.gens) s₁) :
    WalkO q loose XP YP l.row.toRowW d [] (fun f vs=>PySem.call f vs):=by
  intro w s₀ s₁ mg mb G Y fa o pm cd doc dV kV ho hd hcd hD hmg hg args vals as hpre hlay hrd hwl hlo
  obtain rfl : dV = .none:=Dflts.none hD hdf
  obtain rfl : kV = .none:=Dflts.noKw hD
  obtain ⟨a,vs,ns,rfl,rfl,hobj,hints,hlen⟩:=script_of hn hpre hwl
  refine enter_call (codeAny_mono (call w s₀ s₁ mg mb fa o pm cd doc a vs ns G Y ho (fd_plain hd) hcd hmg hobj hints hlen hg) fun r s' hq=>?_)
  obtain ⟨rfl,h2,h3,h4⟩:=hq
  exact ⟨.inl ⟨.bool true,.bool true,[],rfl,fun _=>rfl,.bool true,post_true l _,fun _=>⟨List.Pairwise.nil,fun _ hm=>(nomatch hm)⟩⟩,h2,h3,h4⟩
section
variable {prog : Program} {w : World} {A : Around} {E : Value -> Shared -> Prop} {s : Shared} {K : Frag}
end
end Att
namespace L2
open PySem PySem.Spec PyProof.Rows
theorem vals_ints : ∀ {vs : List Value} {ns : List Int},IntsAre vs ns -> Vals (ns.map V.int) vs
  | _,_,.nil=>.nil
  | _,_,.cons n t h=>.cons ⟨t,rfl⟩ (vals_ints h)
def Only (H : Hp) : Prop:=∀ b,H b = none \/ ∃ o xs,H b = some (.frz o (.lst xs))
theorem law_call {P : Program} {w : World} {K : PySem.W.Frag} {mg mb : Str -> Option Value} {CX : CXT} {k : Nat} {fa a : Addr} {fd : FuncData} {x : Str} {sp : Sp} {s₁ : Shared} {vs : List Value} {ns : List Int}
    (KX : K.In s₁.heap) (hns : s₁.heap.Ns mainGlobals mg) (hb : s₁.heap.Ns builtinsNs mb) (hbb : ∀ x : Str,x ≠ "__name__" -> mb x = bootBuiltins x) (hlim : s₁.heap.NoLimit) (hg : s₁.gens = #[])
    (ha : s₁.heap.get? a = some { cls:=.type "list",data:=.seq vs.toArray }) (hi : IntsAre vs ns) (hl : ns.length <= sizeLine) (hr : Room k callerA)
    (F : ∀ base : Heap,K.In base -> base.Ns mainGlobals mg -> FnOk P w K mg base CX k fa fd [x] sp) (hbind : ∀ (s : Shared) (u : Value),BindsTo s fd ⟨[u],[]⟩ [(x,u)])
    (hsp : ∀ H : Hp,Only H -> SqL K H a (ns.map V.int) -> sp [.ref a] H (fun v _=>v = .bl true) fun _ _ _=>False)
    (hCX : ∀ H e s',CX [] H s₁ (fun _ _ _=>False) e s' -> False) :
    codeAny (model P w) callerA (.call (.ref fa) ⟨[.ref a],[]⟩) (fun r s'=>r = .ok (.ret (.bool true)) /\ OldK s₁.heap s'.heap /\ s'.os = s₁.os /\ AllBare s'.gens) s₁:=by
  have rv:=vals_ints hi
  have lenV:=hi.length
  have core : ∀ H : Hp,Only H -> SqL K H a (ns.map V.int) -> HOk P w H s₁.heap -> (∀ b,H b ≠ none -> b = a) -> (H a ≠ none -> K.lookup a = none) ->
      codeAny (model P w) callerA (.call (.ref fa) ⟨[.ref a],[]⟩) (fun r s'=>r = .ok (.ret (.bool true)) /\ OldK s₁.heap s'.heap /\ s'.os = s₁.os /\ AllBare s'.gens) s₁:=by
    intro H hO hS hok hA hK
    have base_of : ∀ {b : Addr} {o : Obj},s₁.heap.get? b = some o -> H b = none -> (hidT s₁.heap H).get? b = some o:=fun e n=>hidT_get e n
    have noA : ∀ {b : Addr} {o : Obj} {es : Array DictEntry} {ep : Nat},s₁.heap.get? b = some o -> o.data = .dict es ep -> H b = none:=fun {b o es ep} e d=>by
      cases q : H b with
      | none=>rfl
      | some u=>
        have e' : b = a:=hA b (by rw [q]; simp)
        subst e'
        rw [ha] at e; cases e
        have d' : Data.seq vs.toArray _ = Data.dict es ep:=d
        cases d'
    have nsK : ∀ {b : Addr} {m : Str -> Option Value},s₁.heap.Ns b m -> (hidT s₁.heap H).Ns b m:=fun {b m} ⟨o,es,ep,e,d,r⟩=>⟨o,es,ep,base_of e (noA e d),d,r⟩
    have hKb : K.In (hidT s₁.heap H):=fun b o e=>base_of (KX b o e) (by
      cases q : H b with
      | none=>rfl
      | some u=>
        have e' : b = a:=hA b (by rw [q]; simp)
        subst e'
        rw [hK (by rw [q]; simp)] at e; cases e)
    have hM : Mod K mg (hidT s₁.heap H):=⟨hKb,nsK hns,⟨mb,nsK hb,hbb⟩,let ⟨mc,h1,h2⟩:=hlim; ⟨mc,nsK h1,h2⟩⟩
    have e0 : Env0 P w K mg (hidT s₁.heap H) callerA [] s₁ H:=⟨rfl,hM,fun b o e=>of_hidT e,Nat.le_of_eq (hidT_size _ _),trivial,fun b hb=>absurd (show b ∈ ([] : List Addr) from hb) (by simp),hok,.of_eq hg⟩
    refine codeAny_mono ((F _ hKb (nsK hns)).run callerA [] s₁ H ⟨[.ref a],[]⟩ [.ref a] [.ref a] _ _ hr e0 (hbind s₁ (.ref a)) (.cons rfl .nil) (hsp H hO hS)) fun r s' h=>?_
    cases r with
    | error e=>exact (hCX H e s' h).elim
    | ok fl=>
      cases fl with
      | next=>exact False.elim h
      | brk=>exact False.elim h
      | cont=>exact False.elim h
      | ret u=>
        obtain ⟨v,H',os,bare,un,hok',r',q⟩:=h
        have q' : v = .bl true:=q
        subst q'
        obtain rfl : u = Value.bool true:=r'
        refine ⟨rfl,OldK.of_keep fun b o e=>?_,os,bare⟩
        cases q : H b with
        | none=>exact un.keep b o e q (by intro z; exact absurd (show b ∈ ([] : List Addr) from z) (by simp)) (by simp)
        | some u=>
          rcases hO b with z | ⟨ob,xs,z⟩
          · rw [q] at z; cases z
          · have z2:=un.frzs b ob _ z
            obtain ⟨e1,_⟩:=hok b _ z
            obtain ⟨e2,_⟩:=hok' b _ z2
            rw [e] at e1; cases e1
            exact e2
  cases hk : K.lookup a with
  | some o=>
    have e:=KX a o hk
    rw [ha] at e
    cases e
    refine core (fun _=>none) (fun _=>.inl rfl) (.inr ⟨_,vs.toArray,_,hk,rfl,rfl,rfl,by rw [List.size_toArray,lenV]; exact hl,by simpa using rv⟩) (fun b u z=>by have z' : (none : Option HO) = some u:=z; cases z') (fun b z=>absurd rfl z) fun z=>absurd rfl z
  | none=>
    refine core (fun b=>if b = a then some (.frz { cls:=.type "list",data:=.seq vs.toArray } (.lst (ns.map V.int))) else none) (fun b=>?_) (.inl (.inr ⟨{ cls:=.type "list",data:=.seq vs.toArray },if_pos rfl⟩)) (fun b u z=>?_) (fun b z=>?_) fun _=>hk
    · by_cases hb : b = a
      · exact .inr ⟨_,_,if_pos hb⟩
      · exact .inl (if_neg hb)
    · by_cases hb : b = a
      · have z':=(if_pos hb).symm.trans z
        cases z'
        subst hb
        exact ⟨ha,by rw [List.length_map]; exact hl,vs,_,rv,ha⟩
      · have z':=(if_neg hb).symm.trans z
        cases z'
    · by_cases hb : b = a
      · exact hb
      · exact absurd (if_neg hb) z
end L2
namespace L2
open PySem PySem.Spec PyProof.Rows
theorem walk_of {l : PySem.W.OpenLaw} {n k : Nat} {q : Program} {loose : List Str} {XP : (Str -> Option Value) -> Heap -> Prop} {YP : World -> Heap -> Prop} {d : DefRec} {K : Params -> PySem.W.Frag} {CX : World -> CXT} {sp : World -> Sp} {x : Str}
    (hn : l.most = some n) (hn2 : n <= sizeLine) (hdf : d.params.defaults = []) (hr : Room k callerA)
    (hY : ∀ (w : World) (h : Heap),YP w h -> (K w.params).In h)
    (F : ∀ (w : World) (mg : Str -> Option Value) (fa : Addr) (h : Heap),(K w.params).In h -> h.Ns mainGlobals mg -> mg d.name = some (.ref fa) ->
      ∃ fd : FuncData,(∀ (s : Shared) (u : Value),BindsTo s fd ⟨[u],[]⟩ [(x,u)]) /\
        ∀ base : Heap,(K w.params).In base -> base.Ns mainGlobals mg -> FnOk l.prog w (K w.params) mg base (CX w) k fa fd [x] (sp w))
    (hsp : ∀ (w : World) (H : Hp) (a : Addr) (ns : List Int),ns.length <= n -> Only H -> SqL (K w.params) H a (ns.map V.int) -> sp w [.ref a] H (fun v _=>v = .bl true) fun _ _ _=>False)
    (hCX : ∀ (w : World) (H : Hp) (s : Shared) (e : Value) (s' : Shared),CX w [] H s (fun _ _ _=>False) e s' -> False) :
    PySem.W.WalkO q loose XP YP l.row.toRowW d [] (fun f vs=>PySem.call f vs):=by
  refine Att.attach_call hn hdf fun w s₀ s₁ mg mb fa o pm cd doc a vs ns G Y ho hd hcd hmg hobj hints hlen hg=>?_
  have KX:=hY w _ Y
  obtain ⟨fd,hb,hF⟩:=F w mg fa _ KX G.T.g hmg
  exact law_call KX G.T.g G.T.b G.T.builtins G.T.nolimit hg hobj hints (Nat.le_trans hlen hn2) hr hF hb (fun H hO hS=>hsp w H a ns hlen hO hS) fun H e s'=>hCX w H s₁ e s'
end L2
namespace L2
open PySem PySem.Spec PyProof.Rows
def inClass (s : Stmt) (j : Nat) : Stmt:=match s with
  | .ClassDef _ _ _ body _ _ _ _ _ _ _=>body.getD j (.Pass ⟨0,0,0,0⟩)
  | _=>.Pass ⟨0,0,0,0⟩
def defArgs (s : Stmt) : Arguments:=match s with
  | .FunctionDef _ a _ _ _ _ _ _ _ _=>a
  | _=>{ posonlyargs:=[],args:=[],vararg:=none,kwonlyargs:=[],kw_defaults:=[],kwarg:=none,defaults:=[] }
def defBody (s : Stmt) : List Stmt:=match s with
  | .FunctionDef _ _ b _ _ _ _ _ _ _=>b
  | _=>[]
def defScope (s : Stmt) : Scope:=match s with
  | .FunctionDef _ _ _ _ _ _ sc _ _ _=>sc
  | _=>{ kind:=.function,names:=[],isGenerator:=false,isCoroutine:=false }
abbrev CX0 : CXT:=fun _ _ _ _ _ _=>False
abbrev E0 : XK:=fun _ _ _=>False
structure Fun (K : PySem.W.Frag) (x qual : Str) (st : Stmt) (f : Addr) (fd : FuncData) : Prop where
  ex : ∃ (oc : Value) (od : Option Addr) (kV doc pm : Value) (an : Option Addr) (cdv ct : Value) (osl : Array (Option Value)),
    fd = PySem.W.fnOf x qual (defArgs st) (defBody st) (defScope st) .none kV doc pm an cdv ct /\ K.lookup f = some ⟨oc,od,.func fd,osl⟩ /\ PySem.W.codeIn K cdv qual = true
  kp : PySem.W.keepIn K (.ref f) = true
section
variable {P : Program} {w : World} {K : PySem.W.Frag} {mg : Str -> Option Value} {base : Heap}
theorem Fun.ok {x qual : Str} {st : Stmt} {f : Addr} {fd : FuncData} {N ps : List Str} {k : Nat} {sp : Sp} (F : Fun K x qual st f fd) (S : FnScope N ps (defScope st)) (len : ∀ vs H Q E,sp vs H Q E -> vs.length = ps.length)
    (hbody : ∀ (cdv : Value) (A : Around) (outer : List Env) (s : Shared) (H : Hp) (vs : List V) (Q : VK) (E : XK),Room k (A.deeper (envOfC qual (defScope st) s.heap.objs.size f cdv)) -> sp vs H Q E ->
      ∃ t,PSs (cxOf CX0 P w K mg base N qual (defScope st) f cdv A outer s H E).nox (defBody st) t /\ t { nx:=fun _ H'=>Q .non H',rt:=Q } (start N vs) H) : FnOk P w K mg base CX0 (k + 1) f fd ps sp:=by
  obtain ⟨oc,od,kV,doc,pm,an,cdv,ct,osl,rfl,lk,hcd⟩:=F.ex
  refine fn_of lk hcd S len fun A outer s H vs Q E hr hsp=>?_
  obtain ⟨t,h,q⟩:=hbody cdv A outer s H vs Q E hr hsp
  exact ⟨t,h.nox,q⟩
theorem Fun.binds {x qual : Str} {st : Stmt} {f : Addr} {fd : FuncData} {ps : List Str} (F : Fun K x qual st f fd)
    (h : ∀ (kV doc pm : Value) (an : Option Addr) (cdv ct : Value) (us : List Value),us.length = ps.length -> bindArgs (PySem.W.fnOf x qual (defArgs st) (defBody st) (defScope st) .none kV doc pm an cdv ct) ⟨us,[]⟩ = pure (ps.zip us)) : Binds K fd ps []:=by
  obtain ⟨oc,od,kV,doc,pm,an,cdv,ct,osl,rfl,lk,hcd⟩:=F.ex
  exact .all (h kV doc pm an cdv ct)
theorem fun_mk {x qual : Str} {st : Stmt} {f : Addr} {oc : Value} {od an : Option Addr} {osl : Array (Option Value)} {kV doc pm cdv ct : Value} (l : K.lookup f = some ⟨oc,od,.func (PySem.W.fnOf x qual (defArgs st) (defBody st) (defScope st) .none kV doc pm an cdv ct),osl⟩)
    (c : PySem.W.codeIn K cdv qual = true) (k : PySem.W.keepIn K (.ref f) = true) : Fun K x qual st f (PySem.W.fnOf x qual (defArgs st) (defBody st) (defScope st) .none kV doc pm an cdv ct):=⟨⟨oc,od,kV,doc,pm,an,cdv,ct,osl,rfl,l,c⟩,k⟩
end
section
variable {X : Cx}
theorem pv (i : Nat) {x : Str} {pos : Pos} (hN : X.N[i]? = some x:=by rfl) (hv : Vis X.env.scope x:=by first | exact Or.inl rfl | exact Or.inr (Or.inl rfl) | exact Or.inr (Or.inr rfl)) (hd : (x == ("__debug__" : Str)) = false:=by decide)
    (hcd : (x == ("__classdict__" : Str)) = false:=by decide) : PE X (.Name x pos) (tVar i):=pe_var hN hv hd hcd
end
theorem iteT {A B : Prop} (h : A) : if true = true then A else B:=by
  rw [if_pos rfl]
  exact h
def Same (H H' : Hp) : Prop:=∀ b o,H b = some o -> H' b = some o
theorem Same.refl (H : Hp) : Same H H:=fun _ _ h=>h
end L2
namespace L2
open PySem PySem.Spec PyProof.Rows
theorem closure_of {scope : Scope} {env : Env} (h : ∀ x ∈ scope.names,x.2 = .free -> ∃ c,env.cells.lookup x.1 = some c) :
    ∃ cl,closureFor scope env = pure cl /\ (∀ x c,cl.lookup x = some c -> env.cells.lookup x = some c) /\ (∀ x ∈ scope.names,x.2 = .free -> ∃ c,cl.lookup x.1 = some c):=by
  have key : ∀ (l : List (Str × NameKind)) (acc : List (Str × Addr)),(∀ x ∈ l,x.2 = .free -> ∃ c,env.cells.lookup x.1 = some c) -> (∀ x c,acc.lookup x = some c -> env.cells.lookup x = some c) ->
      ∃ cl,(forIn l acc fun (x : Str × NameKind) (r : List (Str × Addr))=>(match x with
        | (name,kind)=>if (kind == NameKind.free) = true then (do let c <- cellOf env name; pure (ForInStep.yield ((name,c) :: r))) else (do pure PUnit.unit; pure (ForInStep.yield r)) : Sem (ForInStep (List (Str × Addr))))) = pure cl /\
        (∀ x c,cl.lookup x = some c -> env.cells.lookup x = some c) /\ (∀ x ∈ l,x.2 = .free -> ∃ c,cl.lookup x.1 = some c) /\ (∀ x c,acc.lookup x = some c -> ∃ c',cl.lookup x = some c'):=by
    intro l
    induction l with
    | nil=>intro acc _ ha; exact ⟨acc,rfl,ha,fun x hx=>(by simp at hx),fun x c e=>⟨c,e⟩⟩
    | cons x r ih=>
      intro acc hl ha
      obtain ⟨n,k⟩:=x
      by_cases hk : k = .free
      · subst hk
        obtain ⟨c,hc⟩:=hl (n,.free) List.mem_cons_self rfl
        have ha' : ∀ x c',((n,c) :: acc).lookup x = some c' -> env.cells.lookup x = some c':=fun x c' e=>by
          rw [List.lookup_cons] at e
          by_cases hx : x = n
          · subst hx; simp at e; rw [<- e]; exact hc
          · have : (x == n) = false:=by simpa using hx
            rw [this] at e; exact ha x c' e
        obtain ⟨cl,e1,e2,e3,e4⟩:=ih ((n,c) :: acc) (fun y hy=>hl y (List.mem_cons_of_mem _ hy)) ha'
        refine ⟨cl,?_,e2,fun y hy hf=>?_,fun y c' e=>?_⟩
        · rw [List.forIn_cons]
          have hcell : cellOf env n = pure c:=by unfold cellOf; rw [hc]
          simp only [beq_self_eq_true,if_true,hcell]
          exact e1
        · rcases List.mem_cons.mp hy with e | hy
          · subst e
            exact e4 n c (by simp)
          · exact e3 y hy hf
        · by_cases hy : y = n
          · subst hy; exact e4 y c (by simp)
          · have : (y == n) = false:=by simpa using hy
            exact e4 y c' (by rw [List.lookup_cons,this]; exact e)
      · obtain ⟨cl,e1,e2,e3,e4⟩:=ih acc (fun y hy=>hl y (List.mem_cons_of_mem _ hy)) ha
        refine ⟨cl,?_,e2,fun y hy hf=>?_,e4⟩
        · rw [List.forIn_cons]
          have : (k == NameKind.free) = false:=by simpa using hk
          simp only [this,Bool.false_eq_true,if_false]
          exact e1
        · rcases List.mem_cons.mp hy with e | hy
          · subst e; exact absurd hf hk
          · exact e3 y hy hf
  obtain ⟨cl,e1,e2,e3,_⟩:=key scope.names [] h (fun x c e=>by simp at e)
  refine ⟨cl,?_,e2,e3⟩
  unfold closureFor
  exact (congrArg (fun z=>z >>= pure) e1).trans rfl
theorem lookup_relab (f : Str -> NameKind -> NameKind) (x : Str) : ∀ l : List (Str × NameKind),(l.map fun y=>(y.1,f y.1 y.2)).lookup x = (l.lookup x).map (f x)
  | []=>rfl
  | (n,k) :: r=>by
    have ih:=lookup_relab f x r
    rw [List.map_cons,List.lookup_cons,List.lookup_cons]
    by_cases hx : x = n
    · subst hx; simp
    · have hb : (x == n) = false:=by simpa using hx
      rw [hb]; exact ih
theorem relabel_lookup {scope : Scope} {env : Env} {x : Str} : (relabel scope env).names.lookup x =
    (scope.names.lookup x).map fun k=>if (k == .free && env.scope.kind == .function && env.kindOf x == some .cell) then .cell else k:=by
  rw [<- lookup_relab (fun n k=>if (k == .free && env.scope.kind == .function && env.kindOf n == some .cell) then .cell else k)]
  unfold relabel
  refine congrArg (List.lookup x) (List.map_congr_left fun y _=>?_)
  obtain ⟨n,k⟩:=y
  show (if (k == NameKind.free && env.scope.kind == .function && env.kindOf n == some .cell) = true then (n,NameKind.cell) else (n,k)) = _
  split <;> rfl
def compOk (N N' : List Str) (sc scE : Scope) (cap : List (Option Nat)) : Bool:=
  sc.kind == .function && sc.names.all (fun x=>x.2 != .cell) && sc.names.all (fun x=>x.2 != .local || sc.names.lookup x.1 == some .local) &&
  sc.names.all (fun x=>x.2 != .free || scE.names.lookup x.1 == some .cell || scE.names.lookup x.1 == some .free) && cap.length == N'.length &&
  (List.range cap.length).all (fun i=>match cap[i]? with
    | some (some j)=>(match N'[i]?,N[j]? with | some a,some b=>a == b && sc.names.lookup a == some .free | _,_=>false)
    | _=>true)
structure CompOk (N N' : List Str) (sc scE : Scope) (cap : List (Option Nat)) : Prop where
  kind : sc.kind = .function
  nocell : ∀ x ∈ sc.names,x.2 ≠ .cell
  loc : ∀ x ∈ sc.names,x.2 = .local -> sc.names.lookup x.1 = some .local
  fre : ∀ x ∈ sc.names,x.2 = .free -> scE.names.lookup x.1 = some .cell \/ scE.names.lookup x.1 = some .free
  len : cap.length = N'.length
  at_ : ∀ (i j : Nat),cap[i]? = some (some j) -> ∃ x,N'[i]? = some x /\ N[j]? = some x /\ sc.names.lookup x = some .free
def capOf (cap : List (Option Nat)) (σ : St) : St:=cap.map fun c=>c.bind fun j=>(σ[j]?).join
section
variable {prog : Program} {w : World} {A : Around} {R : Result -> Shared -> Prop} {s : Shared}
end
section
variable {X : Cx}
theorem HOk.same {P : Program} {w : World} {H : Hp} {h h' : Heap} {a : Addr} (ok : HOk P w H h) (hn : H a = none) (hs : Heap.SameBut a h h') : HOk P w H h':=fun b ob e=>by
  refine (ok b ob e).stay (fun c w' hc q=>(hs.2 c ?_).trans q) (fun _ q=>q) fun _ _ q=>q
  rintro rfl
  rcases hc with rfl | hc
  · rw [hn] at e; cases e
  · rw [hn] at hc; cases hc
end
end L2
namespace L2
open PySem PySem.Spec PyProof.Rows
def HasItems (t : Bool) (h : Heap) (a : Addr) (items : Array Value) : Prop:=if t = true then h.IsTuple a items else h.IsList a items
def IterAt (t : Bool) (h : Heap) (it a : Addr) (i : Nat) : Prop:=if t = true then h.IsTupleIter it a i else h.IsListIter it a i
theorem HasItems.at {t : Bool} {h h' : Heap} {a : Addr} {items : Array Value} (x : HasItems t h a items) (k : ∀ o,h.get? a = some o -> h'.get? a = some o) : HasItems t h' a items:=by
  cases t
  · exact Heap.IsList.at x k
  · obtain ⟨o,e,r⟩:=x
    exact ⟨o,k o e,r⟩
theorem HasItems.there {t : Bool} {h : Heap} {a : Addr} {items : Array Value} (x : HasItems t h a items) : ∃ o,h.get? a = some o:=by
  cases t
  · obtain ⟨o,e,_⟩:=x; exact ⟨o,e⟩
  · obtain ⟨o,e,_⟩:=x; exact ⟨o,e⟩
section
variable {prog : Program} {w : World} {A : Around} {E : Value -> Shared -> Prop} {s : Shared}
def iterObj (t : Bool) (l : Addr) : Obj:=if t = true then { cls:=.type "tuple_iterator",data:=.fields #[.ref l,.int 0 0] } else { cls:=.type "list_iterator",data:=.fields #[.ref l,.int 0 0] }
theorem pyIter_seq {t : Bool} {l : Addr} {items : Array Value} {Q : Value -> Shared -> Prop} (hl : HasItems t s.heap l items)
    (hQ : Q (.ref s.heap.objs.size) { s with heap:=s.heap.push (iterObj t l) }) : wpAny (model prog w) A (pyIter (.ref l)) Q E s:=by
  cases t
  · exact wpAny_pyIter_list hl hQ
  · exact wpAny_pyIter_tuple hl hQ
theorem iterObj_at {t : Bool} {h : Heap} {it l : Addr} (e : h.get? it = some (iterObj t l)) : IterAt t h it l 0:=by
  cases t
  · exact ⟨_,e,rfl,rfl⟩
  · exact ⟨_,e,rfl,rfl⟩
theorem iterObj_free (t : Bool) (l : Addr) : (iterObj t l).isFreed = false:=by cases t <;> rfl
end
section
variable {prog : Program} {w : World} {A : Around} {E : Value -> Shared -> Prop} {s : Shared}
end
def SqK (K : PySem.W.Frag) (t : Bool) (H : Hp) (a : Addr) (xs : List V) : Prop:=if t = true then SqT K H a xs else SqL K H a xs
section
variable {X : Cx} {pins : List (Addr × Obj)} {σ : St} {H : Hp} {s : Shared}
theorem Inv.seqK {t : Bool} {a : Addr} {xs : List V} (I : Inv X pins σ H s) (h : SqK X.K t H a xs) : ∃ its : List Value,Vals xs its /\ HasItems t s.heap a its.toArray /\ xs.length <= sizeLine:=by
  cases t
  · obtain ⟨its,r,p,z⟩:=I.list h
    exact ⟨its,r,p.isList,z⟩
  · obtain ⟨its,r,p,z⟩:=I.tuple h
    exact ⟨its,r,p,z⟩
end
section
variable {X : Cx}
end
end L2
namespace L2
open PySem PySem.Spec PyProof.Rows
theorem walksK {prog : Program} {w : World} {A : Around} (hh : A.handled = none) (t : Bool) (I ax : Addr) (hne : ax ≠ I) (items : Array Value) :
    Walks prog w A I [I,ax] [I] items.size (fun i v=>items[i]? = some v) (fun i h=>IterAt t h I ax i /\ HasItems t h ax items):=by
  cases t
  · exact Walks.list hh I ax hne items
  · exact Walks.tuple hh I ax hne items
theorem getD_at {α : Type} (l : List α) (d : α) {n : Nat} (h : n < l.length) : l.getD n d = l[n]:=by simp [List.getD,h]
theorem preSum_list (ns : List Int) : preSum (fun j=>ns.getD j 0) ns.length = ns.sum:=by
  have key : ∀ (k : Nat),k <= ns.length -> preSum (fun j=>ns.getD j 0) k = (ns.take k).sum:=by
    intro k
    induction k with
    | zero=>intro _; rfl
    | succ k ih=>
      intro hk
      show preSum _ k + ns.getD k 0 = _
      have hlt : k < ns.length:=by omega
      rw [ih (by omega),List.take_succ,List.sum_append,getD_at _ _ hlt,List.getElem?_eq_getElem hlt]
      simp
  rw [key ns.length (Nat.le_refl _),List.take_length]
section
variable {X : Cx} {pins : List (Addr × Obj)} {σ : St} {H : Hp} {s : Shared}
theorem Inv.movedNew {s' : Shared} (I : Inv X pins σ H s) {o : Obj} (m : Moved [s.heap.objs.size] (fun a b=>b = a) { s with heap:=s.heap.push o } s') : Inv X pins σ H s':=by
  obtain ⟨m1,m2,m3,m4,m5⟩:=m
  obtain ⟨h',g',d',t',o'⟩:=s'
  have e1 : g' = s.gens:=m2
  have e2 : d' = s.drawn:=m3
  have e3 : o' = s.os:=m4
  subst e1 e2 e3
  refine I.kept (t':=t') fun b u e=>m1 b u (fun z=>?_) (Heap.get?_push_of_some _ e)
  have : b = s.heap.objs.size:=by simpa using z
  exact absurd (Heap.lt_size e) (by rw [this]; exact Nat.lt_irrefl _)
theorem ints_get {ns : List Int} {its : List Value} (r : Vals (ns.map V.int) its) : ∀ (i : Nat) (v : Value),its.toArray[i]? = some v -> ∃ t,v = Value.int (ns.getD i 0) t:=fun i v e=>by
  have e' : its[i]? = some v:=by simpa using e
  have hi : i < its.length:=(List.getElem?_eq_some_iff.mp e').1
  have hl:=r.length
  rw [List.length_map] at hl
  have hn : (ns.map V.int)[i]? = some (V.int (ns.getD i 0)):=by
    have : i < ns.length:=by omega
    simp [List.getD,this]
  obtain ⟨u,hu,t,ru⟩:=r.get hn
  rw [e'] at hu
  cases hu
  exact ⟨t,ru⟩
theorem bools_get {bs : List Bool} {its : List Value} (r : Vals (bs.map V.bl) its) : ∀ (i : Nat) (v : Value),its.toArray[i]? = some v -> v = Value.bool (bs.getD i false):=fun i v e=>by
  have e' : its[i]? = some v:=by simpa using e
  have hi : i < its.length:=(List.getElem?_eq_some_iff.mp e').1
  have hl:=r.length
  rw [List.length_map] at hl
  have hn : (bs.map V.bl)[i]? = some (V.bl (bs.getD i false)):=by
    have : i < bs.length:=by omega
    simp [List.getD,this]
  obtain ⟨u,hu,ru⟩:=r.get hn
  rw [e'] at hu
  cases hu
  exact ru
theorem iterObj_walk {t : Bool} {l : Addr} {items : Array Value} (hl : HasItems t s.heap l items) : l ≠ s.heap.objs.size /\
    (IterAt t (s.heap.push (iterObj t l)) s.heap.objs.size l 0 /\ HasItems t (s.heap.push (iterObj t l)) l items) /\ ∀ b ∈ [s.heap.objs.size,l],b < (s.heap.push (iterObj t l)).objs.size:=by
  obtain ⟨o,e⟩:=hl.there
  have hlt:=Heap.lt_size e
  refine ⟨Nat.ne_of_lt hlt,⟨iterObj_at (Heap.get?_push_size _ (iterObj_free _ _)),hl.at fun o e=>Heap.get?_push_of_some _ e⟩,fun b hb=>?_⟩
  rw [Heap.size_push]
  simp at hb
  rcases hb with rfl | rfl
  · exact Nat.lt_succ_self _
  · exact Nat.lt_succ_of_lt hlt
end
section
variable {X : Cx}
theorem call_sum (t : Bool) (hc : X.calm = true) : CallR X (.builtin "sum") (fun xs H Q=>∃ (a : Addr) (ns : List Int),xs = [.ref a] /\ SqK X.K t H a (ns.map V.int) /\ Q (.int ns.sum) H):=by
  intro pins s σ H xs us Q I r h
  obtain ⟨a,ns,rfl,hq,q⟩:=h
  obtain ⟨u,rfl,r1⟩:=vals1 r
  cases r1
  obtain ⟨its,rv,p,_⟩:=I.seqK hq
  obtain ⟨w1,w2,w3⟩:=iterObj_walk p
  have hl:=rv.length
  rw [List.length_map] at hl
  refine call_sum_walkAnyS (pyIter_seq p ⟨_,_,_,_,_,_,_,fun j=>ns.getD j 0,rfl,(walksK (A:=X.A.in1) (I.ok.hd hc) t _ a w1 its.toArray).toS,w2,w3,ints_get rv,fun s' t' m=>?_⟩)
  refine ⟨.int ns.sum,H,I.movedNew m,⟨t',?_⟩,q⟩
  rw [List.size_toArray,<- hl,preSum_list]
theorem range_all (bs : List Bool) : (List.range bs.length).all (fun i=>bs.getD i false) = bs.all id:=by
  induction bs with
  | nil=>rfl
  | cons b r ih=>
    rw [List.length_cons,List.range_succ_eq_map,List.all_cons,List.all_map,List.all_cons,<- ih]
    rfl
theorem range_any (bs : List Bool) : (List.range bs.length).any (fun i=>bs.getD i false) = bs.any id:=by
  induction bs with
  | nil=>rfl
  | cons b r ih=>
    rw [List.length_cons,List.range_succ_eq_map,List.any_cons,List.any_map,List.any_cons,<- ih]
    rfl
theorem call_all (t : Bool) (hc : X.calm = true) : CallR X (.builtin "all") (fun xs H Q=>∃ (a : Addr) (bs : List Bool),xs = [.ref a] /\ SqK X.K t H a (bs.map V.bl) /\ Q (.bl (bs.all id)) H):=by
  intro pins s σ H xs us Q I r h
  obtain ⟨a,bs,rfl,hq,q⟩:=h
  obtain ⟨u,rfl,r1⟩:=vals1 r
  cases r1
  obtain ⟨its,rv,p,_⟩:=I.seqK hq
  obtain ⟨w1,w2,w3⟩:=iterObj_walk p
  have hl:=rv.length
  rw [List.length_map] at hl
  refine call_all_walkS (pyIter_seq p ⟨_,_,_,_,_,_,_,fun j=>bs.getD j false,rfl,(walksK (A:=X.A.in1) (I.ok.hd hc) t _ a w1 its.toArray).toS,w2,fun i v s' Q' E' hv hQ=>?_,fun s' m=>?_⟩)
  · rw [bools_get rv i v hv]
    exact wpAny_truthy_bool hQ
  · refine ⟨.bl (bs.all id),H,I.movedNew m,?_,q⟩
    show Value.bool _ = _
    rw [List.size_toArray,<- hl,range_all]
theorem call_maxL (t : Bool) (hc : X.calm = true) : CallR X (.builtin "max") (fun xs H Q=>∃ (a : Addr) (ns : List Int),xs = [.ref a] /\ SqK X.K t H a (ns.map V.int) /\ ns ≠ [] /\ ∀ m,m ∈ ns -> (∀ k,k ∈ ns -> k <= m) -> Q (.int m) H):=by
  intro pins s σ H xs us Q I r h
  obtain ⟨a,ns,rfl,hq,hne,q⟩:=h
  obtain ⟨u,rfl,r1⟩:=vals1 r
  cases r1
  obtain ⟨its,rv,p,_⟩:=I.seqK hq
  obtain ⟨w1,w2,w3⟩:=iterObj_walk p
  have hl:=rv.length
  rw [List.length_map] at hl
  have hpos : 0 < ns.length:=List.length_pos_iff.mpr hne
  refine call_max_walkS (pyIter_seq p ⟨_,_,_,_,_,_,_,_,rfl,(walksK (A:=X.A.in1) (I.ok.hd hc) t _ a w1 its.toArray).toS,w2,w3,by rw [List.size_toArray]; omega,CmpOf.ints_gt (fun j=>ns.getD j 0) (fun i v hv=>ints_get rv i v hv),fun v s' hv m=>?_⟩)
  obtain ⟨t',rfl⟩:=ints_get rv _ _ hv
  obtain ⟨h1,h2⟩:=argBest_gt (fun j=>ns.getD j 0) (its.toArray.size - 1)
  have hb : argBest (fun i j=>decide (ns.getD i 0 > ns.getD j 0)) (its.toArray.size - 1) < ns.length:=by
    have e' : its.toArray.size = ns.length:=by rw [List.size_toArray]; omega
    rw [e'] at h1 ⊢
    exact Nat.lt_of_le_of_lt h1 (by omega)
  refine ⟨.int (ns.getD (argBest (fun i j=>decide (ns.getD i 0 > ns.getD j 0)) (its.toArray.size - 1)) 0),H,I.movedNew m,⟨t',rfl⟩,q _ ?_ fun k hk=>?_⟩
  · rw [getD_at _ _ hb]
    exact List.getElem_mem hb
  · obtain ⟨j,hj,rfl⟩:=List.mem_iff_getElem.mp hk
    have:=h2 j (by rw [List.size_toArray]; omega)
    rw [getD_at _ _ hj] at this
    exact this
theorem call_minL (t : Bool) (hc : X.calm = true) : CallR X (.builtin "min") (fun xs H Q=>∃ (a : Addr) (ns : List Int),xs = [.ref a] /\ SqK X.K t H a (ns.map V.int) /\ ns ≠ [] /\ ∀ m,m ∈ ns -> (∀ k,k ∈ ns -> m <= k) -> Q (.int m) H):=by
  intro pins s σ H xs us Q I r h
  obtain ⟨a,ns,rfl,hq,hne,q⟩:=h
  obtain ⟨u,rfl,r1⟩:=vals1 r
  cases r1
  obtain ⟨its,rv,p,_⟩:=I.seqK hq
  obtain ⟨w1,w2,w3⟩:=iterObj_walk p
  have hl:=rv.length
  rw [List.length_map] at hl
  have hpos : 0 < ns.length:=List.length_pos_iff.mpr hne
  refine call_min_walkS (pyIter_seq p ⟨_,_,_,_,_,_,_,_,rfl,(walksK (A:=X.A.in1) (I.ok.hd hc) t _ a w1 its.toArray).toS,w2,w3,by rw [List.size_toArray]; omega,CmpOf.ints_lt (fun j=>ns.getD j 0) (fun i v hv=>ints_get rv i v hv),fun v s' hv m=>?_⟩)
  obtain ⟨t',rfl⟩:=ints_get rv _ _ hv
  obtain ⟨h1,h2⟩:=argBest_lt (fun j=>ns.getD j 0) (its.toArray.size - 1)
  have hb : argBest (fun i j=>decide (ns.getD i 0 < ns.getD j 0)) (its.toArray.size - 1) < ns.length:=by
    have e' : its.toArray.size = ns.length:=by rw [List.size_toArray]; omega
    rw [e'] at h1 ⊢
    exact Nat.lt_of_le_of_lt h1 (by omega)
  refine ⟨.int (ns.getD (argBest (fun i j=>decide (ns.getD i 0 < ns.getD j 0)) (its.toArray.size - 1)) 0),H,I.movedNew m,⟨t',rfl⟩,q _ ?_ fun k hk=>?_⟩
  · rw [getD_at _ _ hb]
    exact List.getElem_mem hb
  · obtain ⟨j,hj,rfl⟩:=List.mem_iff_getElem.mp hk
    have:=h2 j (by rw [List.size_toArray]; omega)
    rw [getD_at _ _ hj] at this
    exact this
end
section
variable {prog : Program} {w : World} {A : Around} {E : Value -> Shared -> Prop} {s : Shared}
end
section
variable {X : Cx}
end
end L2
namespace L2
open PySem PySem.Spec PyProof.Rows
def TSame (H H' : Hp) : Prop:=∀ b xs,H b = some (.tup xs) -> H' b = some (.tup xs)
section
variable {K : PySem.W.Frag} {cap : List (Option Nat)} {te : TE} {σ : St} {H1 : Hp} {Q : VK}
abbrev g2 (K : PySem.W.Frag) : TG:=gTup K 2 (gCons (gName 0) (gCons (gName 1) gNil))
end
def clsV : V -> Option Value
  | .ty n=>some (.type n)
  | .ref a=>some (.ref a)
  | _=>none
theorem clsV_rel {c : V} {cv u : Value} (e : clsV c = some cv) (r : RelV c u) : u = cv:=by
  cases c with
  | ty n=>cases e; exact r
  | ref a=>cases e; exact r
  | _=>cases e
section
variable {X : Cx}
theorem call_isinst : CallR X (.builtin "isinstance") (fun xs H Q=>∃ x c cv t b,xs = [x,c] /\ clsV c = some cv /\ TyOf X.K H x t /\ PySem.W.kitOne X.K t cv = some b /\ Q (.bl b) H):=by
  intro pins s σ H xs us Q I r h
  obtain ⟨x,c,cv,t,b,rfl,hc,ty,e,q⟩:=h
  obtain ⟨u,w',rfl,r1,r2⟩:=vals2 r
  rw [clsV_rel hc r2]
  exact isinst_ok I r1 ty e fun tk=>⟨.bl b,H,I.tok tk,rfl,q⟩
theorem boot_isinstance : bootBuiltins "isinstance" = some (.builtin "isinstance"):=by decide +kernel
theorem boot_sum : bootBuiltins "sum" = some (.builtin "sum"):=by decide +kernel
theorem boot_all : bootBuiltins "all" = some (.builtin "all"):=by decide +kernel
theorem boot_any : bootBuiltins "any" = some (.builtin "any"):=by decide +kernel
theorem boot_max : bootBuiltins "max" = some (.builtin "max"):=by decide +kernel
theorem boot_min : bootBuiltins "min" = some (.builtin "min"):=by decide +kernel
theorem boot_tuple : bootBuiltins "tuple" = some (.type "tuple"):=by decide +kernel
theorem boot_list : bootBuiltins "list" = some (.type "list"):=by decide +kernel
theorem boot_int : bootBuiltins "int" = some (.type "int"):=by decide +kernel
theorem boot_bool : bootBuiltins "bool" = some (.type "bool"):=by decide +kernel
theorem boot_str : bootBuiltins "str" = some (.type "str"):=by decide +kernel
end
section
variable {X : Cx} (K : PySem.W.Frag)
end
def Tab (H : Hp) (a : Addr) (tb : List (List Int)) : Prop:=∃ rs : List Addr,H a = some (.tup (rs.map V.ref)) /\ Paired (fun r row=>H r = some (.tup (List.map V.int row))) rs tb
def Wf (n : Nat) (tb : List (List Int)) : Prop:=tb.length = n /\ ∀ row ∈ tb,row.length = n + 1 /\ ∀ x ∈ row,(0 : Int) <= x
def Sz (n : Nat) (tb : List (List Int)) : Prop:=tb.length = n /\ ∀ row ∈ tb,row.length = n + 1
end L2
namespace L2
open PySem PySem.Spec PyProof.Rows PySem.W PySem.Builtin.Getset_descriptor
structure XCls (K : Frag) (C : Addr) : Prop where
  cls : (clsIn K C).isSome = true
  ga : findIn K (.ref C) "__getattribute__" = some (some (.builtin "BaseException.__getattribute__"))
  gt : findIn K (.ref C) "__getattr__" = some none
  cl : findIn K (.ref C) "__class__" = some (some (.builtin "object.__class__"))
  gs : specialIn K (.builtin "object.__class__") "__get__" = some (some (.builtin "getset_descriptor.__get__"))
  tk : takesIn K (.builtin "object.__class__") = some true
  ob : mroIn K C (.type "object") = some true
  be : mroIn K C (.type "BaseException") = some true
def IsX (x C : Addr) (h : Heap) : Prop:=∃ ox,h.get? x = some ox /\ ox.cls = .ref C
theorem IsX.type {M : Model} {h : Heap} {x C : Addr} (I : IsX x C h) : Looks M h (typeOf (.ref x)) (.ref C):=by
  obtain ⟨ox,h1,h2⟩:=I
  exact h2 ▸ (Looks.ld h1).andThen .now
theorem xc_find {K : Frag} {M : Model} {h : Heap} {x C : Addr} (X : K.In h) (F : XCls K C) : Looks M h (Builtin.ObjectAttr.find (.ref x) (.ref C) "__class__") (.bind (.builtin "getset_descriptor.__get__") (.builtin "object.__class__")):=by
  have L1:=looks_findIn (M:=M) X F.cl
  have L2 : Looks M h (Builtin.ObjectAttr.getOf (some (.builtin "object.__class__"))) (some (.builtin "getset_descriptor.__get__")):=looks_specialIn X F.gs
  have L3 : Looks M h (Builtin.ObjectAttr.dataDescriptor? (some (.builtin "object.__class__")) (some (.builtin "getset_descriptor.__get__"))) (some (.builtin "getset_descriptor.__get__",.builtin "object.__class__")):=(looks_takesIn X F.tk).andThen .now
  exact L1.andThen (L2.andThen (L3.andThen (Looks.tag .now)))
section
variable {prog : Program} {w : World} {A : Around} {E : Value -> Shared -> Prop} {h : Heap} {g : Array GenState} {d : Drawn} {t : Nat} {os : OsState} {K : Frag} {x C : Addr}
theorem xc_get {tp : Value} {R : Result -> Shared -> Prop} (X : K.In h) (F : XCls K C) (I : IsX x C h) (hq : R (.ok (.ret (.ref C))) ⟨h,g,d,t,os⟩) : codeAny (model prog w) A (.call (.builtin "getset_descriptor.__get__") ⟨[.builtin "object.__class__",.ref x,tp],[]⟩) R ⟨h,g,d,t,os⟩:=by
  have L0:=I.type (M:=model prog w)
  have L1:=looks_mroIn (M:=model prog w) X F.ob
  refine codeAny_call_builtin KF.slot_gs.plain KF.entry_gs (KF.slot_gs.check _ _ _ _ _ _ _ _ KF.type_class (KF.args_gs _ _ _) ?_)
  unfold Builtin.«getset_descriptor.__get__» descrGet
  rw [dga_obj]
  refine wpAny_bind (wpAny_pure ?_)
  unfold descrGetter descrCheckInstance descrNameAndClass isInstance
  simp only [KF.owner_class]
  repeat lk
  refine ⟨Code.quiet_builtin _ (by decide +kernel),codeAny_builtin KF.entry_class ?_⟩
  unfold Builtin.«object.__class__» shownTypeOf
  repeat lk
  exact hq
theorem xc_entry {tk : Tok} {Q : Fin -> Shared -> Prop} (X : K.In h) (F : XCls K C) (I : IsX x C h) (hq : Q (.done (.ret (.ref C))) ⟨h,g,d,t,os⟩) :
    wpAny (model prog w) A (Builtin.«object.__getattribute__» ⟨[.ref x,.str "__class__" tk],[]⟩) Q E ⟨h,g,d,t,os⟩:=by
  have L0:=I.type (M:=model prog w)
  have L1:=xc_find (M:=model prog w) (x:=x) X F
  unfold Builtin.«object.__getattribute__»
  refine wpAny_bind (wpAny_pure ?_)
  refine wpAny_bind (wpAny_pure ?_)
  refine wpAny_bind (L0.at (wpAny_bind (L1.at ?_)))
  show wpAny _ _ (Builtin.ObjectAttr.bindTo (.builtin "getset_descriptor.__get__") (.builtin "object.__class__") (.ref x) (.ref C)) _ _ _
  unfold Builtin.ObjectAttr.bindTo
  refine wpAny_bind (wpAny_holding (wpAny_call (xc_get X F I ?_)))
  exact wpAny_pure hq
theorem xc_check {M : Model} {nameV : Value} {Q : Unit -> Shared -> Prop} (X : K.In h) (F : XCls K C) (I : IsX x C h) (hq : Q () ⟨h,g,d,t,os⟩) : wpAny M A (checkBuiltinCall "BaseException.__getattribute__" ⟨[.ref x,nameV],[]⟩) Q E ⟨h,g,d,t,os⟩:=by
  have hk : builtinKind "BaseException.__getattribute__" = some .slot:=by decide +kernel
  have hsplit : splitId "BaseException.__getattribute__" = some ("BaseException", "__getattribute__"):=by decide +kernel
  have LI : Looks M h (isInstance (.ref x) (.type "BaseException")) true:=(I.type).andThen (looks_mroIn X F.be)
  have ha:=PySem.F.args_bexc_ga (.ref x) nameV
  simp only [checkBuiltinCall,hk,hsplit]
  refine wpAny_bind (LI.at ?_)
  simp only [Bool.not_true,Bool.false_eq_true,if_false]
  exact wpAny_of_eq ha hq
theorem xc_call {tk : Tok} {R : Result -> Shared -> Prop} (X : K.In h) (F : XCls K C) (I : IsX x C h) (hq : R (.ok (.ret (.ref C))) ⟨h,g,d,t,os⟩) :
    codeAny (model prog w) A (.call (.builtin "BaseException.__getattribute__") ⟨[.ref x,.str "__class__" tk],[]⟩) R ⟨h,g,d,t,os⟩:=
  codeAny_call_builtin PySem.F.attr_ValueError.ga.plain PySem.F.entry_bexc_ga (xc_check X F I (xc_entry X F I hq))
theorem xc_by {tk : Tok} {Q : Value -> Shared -> Prop} (X : K.In h) (F : XCls K C) (I : IsX x C h) (hq : Q (.ref C) ⟨h,g,d,t,os⟩) : wpAny (model prog w) A (getAttrBy (.ref x) (.str "__class__" tk) false) Q E ⟨h,g,d,t,os⟩:=by
  have L0:=I.type (M:=model prog w)
  have L1:=looks_findIn (M:=model prog w) X F.ga
  have L2:=looks_findIn (M:=model prog w) X F.gt
  have hx2 : (Value.builtin "BaseException.__getattribute__" == Value.builtin "object.__getattribute__") = false:=by decide +kernel
  have hx1 : (onTheHeap (Value.ref C) && Value.builtin "BaseException.__getattribute__" == Value.builtin "object.__getattribute__") = false:=by rw [hx2]; rfl
  have f3:=PySem.F.attr_ValueError.ga.bind (.ref x)
  unfold getAttrBy
  refine wpAny_holding (wpAny_bind (L0.at (wpAny_bind (L1.at ?_))))
  repeat (any_goals (first | assumption | with_reducible refine L2.at ?_ | wp_step))
  refine xc_call X F I ?_
  repeat (any_goals (first | assumption | wp_step))
theorem xc_attr {Q : Option Value -> Shared -> Prop} (X : K.In h) (F : XCls K C) (I : IsX x C h) (hq : Q (some (.ref C)) ⟨h,g,d,t + 1,os⟩) : wpAny (model prog w) A (getAttr? (.ref x) "__class__") Q E ⟨h,g,d,t,os⟩:=by
  unfold getAttr? getAttrBy?
  repeat (any_goals (first | assumption | with_reducible apply xc_by X F I | wp_step))
end
theorem kitx_exc {K : Frag} {x C : Addr} (F : XCls K C) : KitX K (.ref x) (.ref C) (IsX x C) where
  ty:=fun _ _ _ I=>I.type
  it:=fun _ _ X _=>by
    obtain ⟨cdD,hcD⟩:=Option.isSome_iff_exists.mp F.cls
    unfold clsIn at hcD
    split at hcD
    · rename_i c' d' cd' sl' ho
      intro A' Q' E' s' k q
      unfold isType loadHead
      exact wpAny_bind (wpAny_loadPart (k _ _ (X _ _ ho)) (wpAny_pure q))
    · cases hcD
  ne:=fun h tp dd its n sl X htp=>by
    obtain ⟨cdD,hcD⟩:=Option.isSome_iff_exists.mp F.cls
    refine Bool.eq_false_iff.mpr fun q=>?_
    have e : C = tp:=Value.ref.inj (beq_iff_eq.mp q)
    subst e
    unfold clsIn at hcD
    split at hcD
    · rename_i c' d' cd' sl' ho
      have z:=(X _ _ ho).symm.trans htp
      cases z
    · cases hcD
  ca:=fun {prog w A E Q s} X I k=>by
    obtain ⟨h,g,d,t,os⟩:=s
    exact xc_attr X F I k
end L2
namespace L2
open PySem PySem.Spec PyProof.Rows
theorem ObjOk.there {P : Program} {w : World} {H : Hp} {h : Heap} {a : Addr} {o : HO} (x : ObjOk P w H h a o) : ∃ u,h.get? a = some u:=by
  cases o with
  | lst xs=>obtain ⟨_,_,_,_,e⟩:=x; exact ⟨_,e⟩
  | tup xs=>obtain ⟨_,_,_,o,e,_⟩:=x; exact ⟨o,e⟩
  | dK kvs=>obtain ⟨_,_,_,_,o,_,_,e,_⟩:=x; exact ⟨o,e⟩
  | dT kvs=>obtain ⟨_,_,_,_,o,_,_,e,_⟩:=x; exact ⟨o,e⟩
  | set S n=>obtain ⟨o,_,_,_,e,_⟩:=x; exact ⟨o,e⟩
  | ins C dx fs=>obtain ⟨_,_,_,e,_⟩:=x; exact ⟨_,e⟩
  | own y=>exact x
  | xd fs=>obtain ⟨_,⟨o,_,_,e,_⟩,_⟩:=x; exact ⟨o,e⟩
  | rng lo hi=>obtain ⟨_,_,_,e⟩:=x; exact ⟨_,e⟩
  | frz ob u=>obtain ⟨e,_⟩:=x; exact ⟨_,e⟩
  | tbl ps=>exact ⟨_,x⟩
  | met f y=>exact ⟨_,x⟩
  | ext φ=>exact x.2.1
theorem HOk.none_of {P : Program} {w : World} {H : Hp} {h : Heap} {a : Addr} (x : HOk P w H h) (e : h.get? a = none) : H a = none:=by
  cases q : H a with
  | none=>rfl
  | some o=>
    obtain ⟨u,z⟩:=(x a o q).there
    rw [e] at z
    cases z
structure Fly (P : Program) (w : World) (outer : List Env) (H H' : Hp) (s s' : Shared) (a : Addr) (cls a0 : Value) (B : Heap) : Prop where
  os : s'.os = s.os
  bare : AllBare s'.gens
  fl : Heap.FlyingW B outer a cls a0 s'.heap
  hokB : HOk P w H' B
  keep : ∀ b o,s.heap.get? b = some o -> H b = none -> b ∉ frs outer -> B.get? b = some o
  there : ∀ b o,s.heap.get? b = some o -> b ∉ frs outer -> ∃ o',B.get? b = some o'
  slot : ∀ b o,s.heap.get? b = some o -> b ∈ frs outer -> ∃ sl,s'.heap.get? b = some { o with slots:=sl }
  free : ∀ b o,s.heap.get? b = some o -> H b = none -> H' b = none
  tups : ∀ b xs,H b = some (.tup xs) -> H' b = some (.tup xs)
  frzs : ∀ b o u,H b = some (.frz o u) -> H' b = some (.frz o u)
  tbls : ∀ b ps,H b = some (.tbl ps) -> ∃ more,H' b = some (.tbl (ps ++ more))
section
variable {P : Program} {w : World} {K : PySem.W.Frag} {mg : Str -> Option Value} {base : Heap} {N : List Str} {qual : Str} {scope : Scope} {f : Addr} {cd : Value} {A : Around} {outer : List Env} {s : Shared} {H : Hp} {E : XK}
end
abbrev bmVE : List Value:=[.type "ValueError",.type "Exception",.type "BaseException",.type "object"]
theorem own_obj {K : PySem.W.Frag} {h : Heap} {C : Addr} {bmB : List Value} {newId : String} {x : Str} {mg : Str -> Option Value} (X : K.In h) (m : mg x = some (.ref C)) (q : PySem.W.excIn K C bmB newId = true) : OwnCls x C bmB newId mg h:=by
  refine ⟨m,?_⟩
  unfold PySem.W.excIn at q
  split at q
  · rename_i dd cd sl ho
    split at q
    · rename_i C' bm k0 k1 k2 k3 n k5 hm hs
      simp only [Bool.and_eq_true,beq_iff_eq,Bool.not_eq_true'] at q
      obtain ⟨⟨⟨⟨⟨rfl,rfl⟩,hdel⟩,ht⟩,hok⟩,hni⟩:=q
      obtain ⟨nm,bs,mro,ns,qn,hd,sn,sub,ab,col,del⟩:=cd
      dsimp only at hm hdel hok hni
      subst hm hdel
      have hsl : sl = #[k0,k1,k2,k3,some (.builtin n),k5]:=by
        obtain ⟨l⟩:=sl
        simp only at hs
        rw [hs]
      subst hsl
      exact ⟨bm,ns,nm,qn,bs,hd,sn,sub,ab,col,dd,k0,k1,k2,k3,k5,_,X _ _ ho,.of_isNs (PySem.W.isNs_of_in X hok),PySem.W.nsMap_none_of_in X hok hni,PySem.W.tail_of_in X ht⟩
    · cases q
  · cases q
section
variable {X : Cx}
def tRaise (C : Addr) (E : XK) (t : TA) : TS:=fun _ σ H=>t σ H fun vs H1=>vs.length <= sizeLine /\ E (.ref C) none H1
end
end L2
namespace L2
open PySem PySem.Spec PyProof.Rows
def suiteCx (X : Cx) (a : Addr) : Cx:={ X with A:=X.A.mark (some (.ref a)),calm:=false,xe:=fun _ _=>False }
section
variable {X : Cx} {pins : List (Addr × Obj)} {σ : St} {H H' : Hp} {s s' : Shared} {a C : Addr}
theorem Inv.suite (I : Inv X pins σ H s) (a : Addr) : Inv (suiteCx X a) pins σ H s:=
  ⟨⟨I.ok.mod,I.ok.kind,I.ok.glob,I.ok.blt,I.ok.above,I.ok.inj,I.ok.has,I.ok.cab,fun h=>(by cases h),I.ok.frames,I.ok.stk,I.ok.exf,I.ok.bs,I.ok.bsz,I.ok.noex,I.ok.exfs,I.ok.funs,I.ok.frf⟩,I.os,I.bare,I.base,I.loc,I.cell,I.free,I.freeC,I.pin,I.hok,I.len⟩
theorem Inv.unsuite (ok : X.Ok) (I : Inv (suiteCx X a) pins σ H s) : Inv X pins σ H s:=⟨ok,I.os,I.bare,I.base,I.loc,I.cell,I.free,I.freeC,I.pin,I.hok,I.len⟩
theorem Fly.inv {cls a0 : Value} {B h5 : Heap} (I : Inv X pins σ H s) (F : Fly X.prog X.w X.stack H H' s s' a cls a0 B) (kB : B.StaysIn h5) (sm : s'.heap.UpToSlots h5) : Inv X pins σ H' { s' with heap:=h5 }:=by
  have sl : ∀ b o,s.heap.get? b = some o -> b ∈ frs X.stack -> ∃ sl,h5.get? b = some { o with slots:=sl }:=fun b o q hb=>by
    obtain ⟨sl,z⟩:=F.slot b o q hb
    obtain ⟨_,o',ho',hnf⟩:=I.stack.mem hb
    rw [q] at ho'
    cases ho'
    obtain ⟨sl',z'⟩:=sm b _ z hnf
    exact ⟨sl',z'⟩
  refine I.call' (s':={ s' with heap:=h5 }) (ch:=[]) F.os ⟨fun b o q n hb _=>kB _ _ (F.keep b o q n hb),fun b o q n hb _=>sl b o q hb,fun b o q n _=>F.free b o q n,fun b o q _=>?_,F.tups,F.frzs,F.tbls⟩ (F.hokB.kept kB) F.bare fun b z=>absurd z (by simp)
  by_cases hb : b ∈ frs X.stack
  · obtain ⟨sl,z⟩:=sl b o q hb
    exact ⟨_,z⟩
  · obtain ⟨o',z⟩:=F.there b o q hb
    exact ⟨o',kB _ _ z⟩
theorem Fly.new {cls a0 : Value} {B : Heap} (F : Fly X.prog X.w X.stack H H' s s' a cls a0 B) : s.heap.get? a = none /\ H' a = none:=by
  have hB : B.get? a = none:=F.fl.2.1
  refine ⟨?_,F.hokB.none_of hB⟩
  cases q : s.heap.get? a with
  | none=>rfl
  | some o=>
    by_cases hb : a ∈ frs X.stack
    · obtain ⟨_,o',ho',hnf⟩:=F.fl.2.2.1.mem hb
      obtain ⟨oe,vs,he,_,hd,_⟩:=F.fl.first
      rw [ho'] at he
      cases he
      exact absurd hd (hnf vs)
    · obtain ⟨o',z⟩:=F.there a o q hb
      rw [hB] at z
      cases z
theorem Inv.track {s1 : Shared} {φ : Heap -> Prop} (I0 : Inv X pins σ H s) (hex : ∀ b,b ∉ X.ex) (h0 : s.heap.get? a = none) (I : Inv X pins σ H' s1) (hn : H' a = none) (o : ObjOk X.prog X.w (upd H' a (.ext φ)) s1.heap a (.ext φ)) : Inv X pins σ (upd H' a (.ext φ)) s1:=by
  have ne0 : ∀ b u,s.heap.get? b = some u -> b ≠ a:=fun b u e z=>by rw [z,h0] at e; cases e
  have nes : ∀ b u,X.s₀.heap.get? b = some u -> b ≠ a:=fun b u e=>by
    obtain ⟨u',e'⟩:=I0.base.there b u e (hex b)
    exact ne0 b u' e'
  refine ⟨I.ok,I.os,I.bare,?_,I.loc,I.cell,?_,?_,?_,?_,I.len⟩
  · have u0:=I.base
    exact ⟨u0.keep,u0.slot,fun c o e n hx=>by rw [upd_ne (nes c o e)]; exact u0.free c o e n hx,u0.there,
      fun c ts e=>by have:=u0.tups c ts e; rw [upd_ne (ne_of_none this hn)]; exact this,
      fun c o ts e=>by have:=u0.frzs c o ts e; rw [upd_ne (ne_of_none this hn)]; exact this,
      fun c ps e=>by obtain ⟨more,q⟩:=u0.tbls c ps e; exact ⟨more,by rw [upd_ne (ne_of_none q hn)]; exact q⟩⟩
  · obtain ⟨m,⟨o,_,_,e,_⟩,_⟩:=I0.loc
    rw [upd_ne (ne0 _ _ e)]; exact I.free
  · intro x c e
    obtain ⟨v,o,z,_⟩:=I0.cell x c e
    rw [upd_ne (ne0 _ _ z)]; exact I.freeC x c e
  · intro p hp
    obtain ⟨e,n,ne,nf,d⟩:=I.pin p hp
    exact ⟨e,by rw [upd_ne (ne0 _ _ (I0.pin p hp).1)]; exact n,ne,nf,d⟩
  · intro c u q
    by_cases hc : c = a
    · subst hc
      rw [upd_same] at q; cases q
      exact o
    · rw [upd_ne hc] at q
      exact (I.hok c u q).stay (fun _ _ _ r=>r) (fun c' r=>by rw [upd_ne (ne_of_none r hn)]; exact r) fun c' ts r=>by rw [upd_ne (ne_of_none r hn)]; exact r
theorem Inv.forget {i : Nat} {n : Str} {m : Str -> Option Value} {h' : Heap} {v : Option Value} {tk : Nat} (I : Inv X pins σ H s) (hN : X.N.Nodup) (hi : X.N[i]? = some n) (hl : ∀ (i : Nat) (x : Str) (v : V),X.N[i]? = some x -> σ[i]? = some (some v) -> Vis X.env.scope x -> ∃ u,RelV v u /\ Look X.env s.heap m x u)
    (hn' : h'.Ns X.env.locals (fun x=>if x = n then v else m x)) (hs : Heap.SameBut X.env.locals s.heap h') : Inv X pins (σ.set i none) H { s with heap:=h',toks:=tk }:=by
  have cne:=I.cne
  have tracked : HOk X.prog X.w H h':=I.hok.same I.free hs
  have neL : ∀ b o,X.s₀.heap.get? b = some o -> b ≠ X.env.locals:=fun b o e=>Nat.ne_of_lt (Nat.lt_of_lt_of_le (Heap.lt_size e) I.ok.above)
  refine ⟨I.ok,I.os,I.bare,⟨fun b o e n hb hx=>(hs.2 b (neL b o e)).trans (I.base.keep b o e n hb hx),fun b o e n hb hx=>?_,I.base.free,fun b o e hx=>?_,I.base.tups,I.base.frzs,I.base.tbls⟩,⟨_,hn',fun j y v' e1 e2 e3=>?_⟩,fun y c e=>?_,I.free,I.freeC,fun p hp=>?_,tracked,by simpa using I.len⟩
  · obtain ⟨sl,z⟩:=I.base.slot b o e n hb hx
    exact ⟨sl,(hs.2 b (neL b o e)).trans z⟩
  · obtain ⟨o',z⟩:=I.base.there b o e hx
    exact ⟨o',(hs.2 b (neL b o e)).trans z⟩
  · by_cases hj : j = i
    · subst hj
      rw [hi] at e1; cases e1
      have : j < σ.length:=by have:=(List.getElem?_eq_some_iff.mp e2).1; simpa using this
      rw [List.getElem?_set_self this] at e2
      cases e2
    · rw [List.getElem?_set_ne (Ne.symm hj)] at e2
      obtain ⟨u,r,q⟩:=hl j y v' e1 e2 e3
      refine ⟨u,r,?_⟩
      rcases q with ⟨k,e⟩ | ⟨k,c,e,z⟩
      · refine .inl ⟨k,?_⟩
        have : y ≠ n:=fun e=>hj (nodup_ix hN e1 (e ▸ hi))
        simp [this,e]
      · exact .inr ⟨k,c,e,z.sameBut hs (cne y c e)⟩
  · obtain ⟨w',z⟩:=I.cell y c e
    exact ⟨w',z.sameBut hs (cne y c e)⟩
  · obtain ⟨e,n,ne,nf,d⟩:=I.pin p hp
    exact ⟨(hs.2 p.1 ne).trans e,n,ne,nf,d⟩
end
section
variable {X : Cx}
end
section
variable {X : Cx}
end
end L2
namespace L2
open PySem PySem.Spec PyProof.Rows
theorem tuple_mul_same (l : Addr) (items : Array Value) (n : Nat) (dd : Option Addr) (sl : Array (Option Value)) (t : Tok) :
    Meets (Builtin.«tuple.__mul__» ⟨[.ref l,.int 1 t],[]⟩) (fun _ R s=>s.heap.get? l = some { cls:=.type "tuple",dict:=dd,data:=.seq items n,slots:=sl } /\ R (.ok (.ret (.ref l))) s):=
  .of_wp fun prog w A R s h=>by
    obtain ⟨hp,g,d,tk,os⟩:=s; obtain ⟨hl,h⟩:=h
    wp_walk using wpAny_loadPart' hl
    exact ⟨_,rfl,h⟩
theorem tuple_mul_many (l : Addr) (items : Array Value) (n : Nat) (dd : Option Addr) (sl : Array (Option Value)) (x : Int) (t : Tok) (h1 : ¬ (decide (x < -(2 ^ 63)) || decide (x >= 2 ^ 63)) = true) (h2 : ¬ (items.isEmpty || x == 1) = true) (h3 : ¬ (decide (x <= 0) || items.isEmpty) = true) (h4 : ¬ (items.size : Int) * x > (2 ^ 63 - 1) / 8) (h5 : ¬ Builtin.Tuple.tupleTooMany ((items.size : Int) * x) = true)
    (h6 : ((List.replicate x.toNat items).foldl (fun x1 x2=>x1 ++ x2) #[]).size <= sizeLine) :
    Meets (Builtin.«tuple.__mul__» ⟨[.ref l,.int x t],[]⟩) (fun _ R s=>s.heap.get? l = some { cls:=.type "tuple",dict:=dd,data:=.seq items n,slots:=sl } /\
      R (.ok (.ret (Value.ref s.heap.objs.size))) { s with heap:=s.heap.push { cls:=Value.type "tuple",data:=Data.seq ((List.replicate x.toNat items).foldl (fun x1 x2=>x1 ++ x2) #[]) } }):=
  .of_wp fun prog w A R s h=>by
    obtain ⟨hp,g,d,tk,os⟩:=s; obtain ⟨hl,h⟩:=h
    wp_walk using wpAny_loadPart' hl
    refine wpAny_ite_false (decide_eq_false h1) ?_
    wp_walk using wpAny_loadPart' hl
    refine wpAny_ite_false (decide_eq_false h4) ?_
    wp_walk using wpAny_loadPart' hl
    all_goals first | exact ⟨_,rfl,h⟩ | (refine wpAny_ite_false (decide_eq_false h5) ?_; wp_walk) | skip
    all_goals first | exact ⟨_,rfl,h⟩ | (refine wpAny_ite_false (decide_eq_false (Nat.not_lt.mpr h6)) ?_; wp_walk; exact ⟨_,rfl,h⟩)
theorem int_rmul_tuple (a : Int) (t : Tok) (l : Addr) (items : Array Value) (n : Nat) (dd : Option Addr) (sl : Array (Option Value)) :
    Meets (Builtin.«int.__rmul__» ⟨[.int a t,.ref l],[]⟩) (fun _ R s=>s.heap.get? l = some { cls:=.type "tuple",dict:=dd,data:=.seq items n,slots:=sl } /\ R (.ok (.ret Value.notImplemented)) s):=
  .of_wp fun prog w A R s h=>by obtain ⟨hp,g,d,tk,os⟩:=s; obtain ⟨hl,h⟩:=h; wp_walk using wpAny_loadPart' hl; exact ⟨_,rfl,h⟩
theorem noFill_tuple_mul : fillsNumberSlot (.type "tuple") "mul" = pure false:=
  PySem.fillsNumberSlot_seq (id := "tuple.__mul__") (r:=some (.builtin "tuple.__rmul__")) F.slot_tuple_mul.lookup (by decide +kernel) F.slot_tuple_rmul.lookup (by decide +kernel)
theorem repeat_tuple : seqRepeat? (.type "tuple") = pure (some (.builtin "tuple.__mul__")):=by
  unfold seqRepeat?
  rw [PySem.seqSlot_of (T := "tuple") (name := "__mul__") (id := "tuple.__mul__") F.slot_tuple_mul.lookup (by decide +kernel),PySem.seqSlot_of (T := "tuple") (name := "__rmul__") (id := "tuple.__rmul__") F.slot_tuple_rmul.lookup (by decide +kernel)]
  rfl
section
variable {X : Cx}
def rRepT (K : PySem.W.Frag) : R2:=fun x y H Q=>∃ a k xs,x = .ref a /\ y = .int k /\ SqT K H a xs /\ xs ≠ [] /\ 1 <= k /\ xs.length * k.toNat <= 4096 /\
  (k = 1 -> Q (.ref a) H) /\ (k ≠ 1 -> ∀ p,H p = none -> Q (.ref p) (upd H p (.tup (List.replicate k.toNat xs).flatten)))
theorem op_repT : OpR X (binaryOp .Mult) (rRepT X.K):=by
  intro pins s σ H x y v u Q I rx ry h
  obtain ⟨a,k,xs,rfl,rfl,ha,hne,hk,hz,q1,q2⟩:=h
  cases rx
  obtain ⟨t,rfl⟩:=ry
  obtain ⟨its,r,p1,hs⟩:=I.tuple ha
  obtain ⟨⟨cls,dd,data,sl⟩,ho,hc,n,hd⟩:=id p1
  simp only at hc hd
  subst hc hd
  have hl : its.length = xs.length:=r.length.symm
  have hpos : 0 < its.length:=by rw [hl]; exact List.length_pos_iff.mpr hne
  have hkz : k.toNat <= 4096:=by
    have : 1 * k.toNat <= xs.length * k.toNat:=Nat.mul_le_mul_right _ (by omega)
    omega
  refine wpAny_binaryOp_repeat_ref (T := "tuple") (U := "int") (by decide) ⟨_,ho,rfl⟩ (fun s'=>typeIs_int s' k t) noFill_tuple_mul F.fills_int_mul F.slot_int_rmul repeat_tuple F.slot_int_index.lookup
    (call_meets F.slot_int_rmul (typeIs_int s k t) F.entry_int_rmul (F.args_int_rmul_2 _ _) (int_rmul_tuple k t a its.toArray n dd sl)
      ⟨ho,rfl,⟨_,ho,rfl⟩,?_⟩)
  by_cases h1 : k = 1
  · subst h1
    exact call_meets F.slot_tuple_mul ⟨_,ho,rfl⟩ F.entry_tuple_mul (F.args_tuple_mul_2 _ _) (tuple_mul_same a its.toArray n dd sl t) ⟨ho,⟨.ref a,H,I,rfl,q1 rfl⟩⟩
  · have f0 : List.foldl (fun x1 x2=>x1 ++ x2) #[] (List.replicate k.toNat its.toArray) = (List.replicate k.toNat its).flatten.toArray:=by
      have:=foldl_rep its k.toNat []
      rw [List.nil_append] at this
      exact this
    have hlen : (its.toArray.size : Int) * k = ((its.length * k.toNat : Nat) : Int):=by
      rw [List.size_toArray,Int.natCast_mul,Int.toNat_of_nonneg (by omega)]
    have hfl : (List.replicate k.toNat its).flatten.length <= 4096:=by rw [len_rep,hl,Nat.mul_comm]; exact hz
    have hb : its.length * k.toNat <= 4096:=by rw [hl]; exact hz
    refine call_meets F.slot_tuple_mul ⟨_,ho,rfl⟩ F.entry_tuple_mul (F.args_tuple_mul_2 _ _) (tuple_mul_many a its.toArray n dd sl k t ?_ ?_ ?_ ?_ ?_ ?_) ⟨ho,?_⟩
    · rw [decide_eq_false (by omega),decide_eq_false (by omega)]; exact Bool.false_ne_true
    · intro z
      rcases Bool.or_eq_true_iff.mp z with z | z
      · rw [List.isEmpty_toArray,List.isEmpty_iff] at z; rw [z] at hpos; simp at hpos
      · exact h1 (eq_of_beq z)
    · intro z
      rcases Bool.or_eq_true_iff.mp z with z | z
      · have:=of_decide_eq_true z; omega
      · rw [List.isEmpty_toArray,List.isEmpty_iff] at z; rw [z] at hpos; simp at hpos
    · rw [hlen]; omega
    · rw [hlen]
      have : (4096 : Int) <= sizeLine:=by decide
      show ¬ decide (((its.length * k.toNat : Nat) : Int) > (sizeLine : Int)) = true
      rw [decide_eq_false (by omega)]; exact Bool.false_ne_true
    · rw [f0,List.size_toArray]; exact Nat.le_trans hfl (by decide)
    · rw [f0]
      refine ⟨.ref s.heap.objs.size,_,I.laid (t':=s.toks) (o:=.tup (List.replicate k.toNat xs).flatten) (fun b ob q=>Heap.get?_push_of_some _ q) (Nat.le_refl _) ?_,rfl,q2 h1 _ (I.hok.fresh (Nat.le_refl _))⟩
      exact ⟨by rw [len_rep,Nat.mul_comm]; exact Nat.le_trans hz (by decide),_,r.rep k.toNat,IsTup.new _ _⟩
end
section
variable {X : Cx} {pins : List (Addr × Obj)} {s : Shared} {σ : St} {H : Hp}
open PySem.SeqAt
end
end L2
namespace L2
open PySem PySem.Spec PyProof.Rows
end L2
namespace L2
open PySem PySem.Spec PyProof.Rows
def SameBut (a : Addr) (H H' : Hp) : Prop:=∀ b o,H b = some o -> H' b = some o \/ (b = a /\ ∃ xs ys,o = .lst xs /\ H' b = some (.lst ys))
section
variable {K : PySem.W.Frag} {cap : List (Option Nat)} {te : TE} {σ : St} {H1 : Hp} {Q : VK}
end
section
variable {X : Cx} {pos : Pos}
end
end L2
namespace L2
open PySem PySem.Spec PyProof.Rows
theorem cellsFrom_look : ∀ (names : List (Str × NameKind)) (h : Heap) (acc : List (Str × Addr)) (x : Str) (c : Addr),(cellsFrom h.objs.size names acc).lookup x = some c ->
    acc.lookup x = some c \/ ((x,NameKind.cell) ∈ names /\ h.objs.size <= c /\ (pushCells h names).IsCell c none)
  | [],_,_,_,_,e=>.inl e
  | (name,kind) :: r,h,acc,x,c,e=>by
    unfold cellsFrom at e
    unfold pushCells
    by_cases hk : (kind == NameKind.cell) = true
    · rw [if_pos hk] at e ⊢
      have hk' : kind = .cell:=by simpa using hk
      have ih:=cellsFrom_look r (h.push { cls:=.type "cell",data:=.cell none }) ((name,h.objs.size) :: acc) x c (by rw [Heap.size_push]; exact e)
      rw [Heap.size_push] at ih
      rcases ih with z | ⟨z1,z2,z3⟩
      · rw [List.lookup_cons] at z
        cases hb : x == name with
        | true=>
          rw [hb] at z; cases z
          exact .inr ⟨by rw [beq_iff_eq.mp hb,hk']; exact List.mem_cons_self,Nat.le_refl _,⟨_,pushCells_keeps _ _ _ _ (Heap.get?_push_size _ rfl),rfl⟩⟩
        | false=>rw [hb] at z; exact .inl z
      · exact .inr ⟨List.mem_cons_of_mem _ z1,by omega,z3⟩
    · rw [if_neg hk] at e ⊢
      rcases cellsFrom_look r h acc x c e with z | ⟨z1,z2,z3⟩
      · exact .inl z
      · exact .inr ⟨List.mem_cons_of_mem _ z1,z2,z3⟩
theorem cellsFrom_old {x : Str} : ∀ (names : List (Str × NameKind)) (n : Nat) (acc : List (Str × Addr)),(x,NameKind.cell) ∉ names -> (cellsFrom n names acc).lookup x = acc.lookup x
  | [],_,_,_=>rfl
  | (name,kind) :: r,n,acc,h=>by
    unfold cellsFrom
    have hr : (x,NameKind.cell) ∉ r:=fun z=>h (List.mem_cons_of_mem _ z)
    by_cases hk : (kind == NameKind.cell) = true
    · rw [if_pos hk,cellsFrom_old r _ _ hr,List.lookup_cons]
      cases hb : x == name with
      | true=>exact absurd (by rw [beq_iff_eq.mp hb,show kind = .cell by simpa using hk]; exact List.mem_cons_self) h
      | false=>rfl
    · rw [if_neg hk,cellsFrom_old r _ _ hr]
theorem cellsFrom_new {x : Str} {c : Addr} : ∀ (names : List (Str × NameKind)) (n : Nat) (acc : List (Str × Addr)),(x,NameKind.cell) ∈ names -> (cellsFrom n names acc).lookup x = some c -> n <= c
  | [],_,_,h,_=>by cases h
  | (name,kind) :: r,n,acc,h,e=>by
    unfold cellsFrom at e
    by_cases hr : (x,NameKind.cell) ∈ r
    · by_cases hk : (kind == NameKind.cell) = true
      · rw [if_pos hk] at e
        exact Nat.le_of_succ_le (cellsFrom_new r _ _ hr e)
      · rw [if_neg hk] at e
        exact cellsFrom_new r _ _ hr e
    · rcases List.mem_cons.mp h with q | q
      · cases q
        rw [if_pos (by decide),cellsFrom_old r _ _ hr,List.lookup_cons] at e
        simp at e
        exact Nat.le_of_eq e
      · exact absurd q hr
theorem cellsFrom_inj : ∀ (names : List (Str × NameKind)) (n : Nat) (acc : List (Str × Addr)),(∀ x c,acc.lookup x = some c -> c < n) -> (∀ x y c,acc.lookup x = some c -> acc.lookup y = some c -> x = y) ->
    ∀ x y c,(cellsFrom n names acc).lookup x = some c -> (cellsFrom n names acc).lookup y = some c -> x = y
  | [],_,_,_,h=>h
  | (name,kind) :: r,n,acc,h1,h2=>by
    unfold cellsFrom
    by_cases hk : (kind == NameKind.cell) = true
    · rw [if_pos hk]
      refine cellsFrom_inj r (n + 1) _ (fun x c e=>?_) (fun x y c e e'=>?_)
      · rw [List.lookup_cons] at e
        cases hb : x == name with
        | true=>rw [hb] at e; cases e; exact Nat.lt_succ_self _
        | false=>rw [hb] at e; exact Nat.lt_succ_of_lt (h1 x c e)
      · rw [List.lookup_cons] at e e'
        cases hb : x == name with
        | true=>
          rw [hb] at e; cases e
          cases hb' : y == name with
          | true=>rw [beq_iff_eq.mp hb,beq_iff_eq.mp hb']
          | false=>rw [hb'] at e'; exact absurd (h1 y _ e') (Nat.lt_irrefl _)
        | false=>
          rw [hb] at e
          cases hb' : y == name with
          | true=>rw [hb'] at e'; cases e'; exact absurd (h1 x _ e) (Nat.lt_irrefl _)
          | false=>rw [hb'] at e'; exact h2 x y c e e'
    · rw [if_neg hk]
      exact cellsFrom_inj r n acc h1 h2
theorem wpAny_newEnvC {M : Model} {A : Around} {E : Value -> Shared -> Prop} {s : Shared} {scope : Scope} {globals : Addr} {cl : List (Str × Addr)} {qual : Str} {func : Option Addr} {code : Value} {env : Env} {builtins : Addr} {Q : Env -> Shared -> Prop}
    (hQ : Q (newEnv scope s.heap.objs.size globals (cellsFrom (s.heap.objs.size + 1) scope.names cl) qual func code (some env) builtins) { s with heap:=pushCells (s.heap.push { cls:=.type "dict",data:=.dict #[] }) scope.names }) :
    wpAny M A (newFunctionEnv scope globals cl [] qual func code (some env) builtins) Q E s:=by
  simp only [newFunctionEnv,Option.isSome_some,if_true]
  refine wpAny_bind (wpAny_alloc ?_)
  refine wpAny_bind (wpAny_layCells _ (fun name kind cells=>by cases hkc : kind == NameKind.cell <;> simp [hkc]) _ _ _ _ ?_)
  rw [show ({ s with heap:=s.heap.push { cls:=.type "dict",data:=.dict #[] } } : Shared).heap.objs.size = s.heap.objs.size + 1 from Heap.size_push ..]
  refine wpAny_bind ?_
  rw [List.forIn_nil]
  exact wpAny_pure (wpAny_pure hQ)
def compOkC (N N' : List Str) (sc scE : Scope) (cap : List (Option Nat)) : Bool:=
  sc.kind == .function && sc.names.all (fun x=>x.2 != .cell || sc.names.lookup x.1 == some .cell) && sc.names.all (fun x=>x.2 != .local || sc.names.lookup x.1 == some .local) &&
  sc.names.all (fun x=>x.2 != .free || scE.names.lookup x.1 == some .cell || scE.names.lookup x.1 == some .free) && cap.length == N'.length &&
  (List.range cap.length).all (fun i=>match cap[i]? with
    | some (some j)=>(match N'[i]?,N[j]? with | some a,some b=>a == b && sc.names.lookup a == some .free | _,_=>false)
    | _=>true)
structure CompOkC (N N' : List Str) (sc scE : Scope) (cap : List (Option Nat)) : Prop where
  kind : sc.kind = .function
  cel : ∀ x ∈ sc.names,x.2 = .cell -> sc.names.lookup x.1 = some .cell
  loc : ∀ x ∈ sc.names,x.2 = .local -> sc.names.lookup x.1 = some .local
  fre : ∀ x ∈ sc.names,x.2 = .free -> scE.names.lookup x.1 = some .cell \/ scE.names.lookup x.1 = some .free
  len : cap.length = N'.length
  at_ : ∀ (i j : Nat),cap[i]? = some (some j) -> ∃ x,N'[i]? = some x /\ N[j]? = some x /\ sc.names.lookup x = some .free
theorem compOkC.of {N N' : List Str} {sc scE : Scope} {cap : List (Option Nat)} (h : compOkC N N' sc scE cap = true) : CompOkC N N' sc scE cap:=by
  unfold compOkC at h
  simp only [Bool.and_eq_true,List.all_eq_true,beq_iff_eq,Bool.or_eq_true,bne_iff_ne] at h
  obtain ⟨⟨⟨⟨⟨h1,h2⟩,h3⟩,h4⟩,h5⟩,h6⟩:=h
  refine ⟨h1,fun x hx e=>?_,fun x hx e=>?_,fun x hx e=>?_,h5,fun i j e=>?_⟩
  · rcases h2 x hx with z | z
    · exact absurd e z
    · exact z
  · rcases h3 x hx with z | z
    · exact absurd e z
    · exact z
  · rcases h4 x hx with (z | z) | z
    · exact absurd e z
    · exact .inl z
    · exact .inr z
  · have hi : i < cap.length:=(List.getElem?_eq_some_iff.mp e).1
    have:=h6 i (List.mem_range.mpr hi)
    rw [e] at this
    simp only at this
    cases e1 : N'[i]? with
    | none=>rw [e1] at this; cases this
    | some a=>
      cases e2 : N[j]? with
      | none=>rw [e1,e2] at this; cases this
      | some b=>
        rw [e1,e2] at this
        simp only [Bool.and_eq_true,beq_iff_eq] at this
        obtain ⟨rfl,z⟩:=this
        exact ⟨a,rfl,rfl,z⟩
def blkC (X : Cx) (N' : List Str) (sc : Scope) (cl : List (Str × Addr)) (C : Addr) (s0 : Shared) (H0 : Hp) (ex : List Addr) : Cx:=
  { X with N:=N',s₀:=s0,H₀:=H0,env:=compEnvC sc cl C X.env,outer:=X.stack,ex:=ex,fn:=fun x=>sc.names.lookup x == some .cell,pn:=[],xe:=fun _ _=>False }
section
variable {X : Cx}
theorem blk_invC {pins : List (Addr × Obj)} {σ : St} {H : Hp} {s : Shared} {N N' : List Str} {sc scE : Scope} {cap : List (Option Nat)} {cl : List (Str × Addr)} {fp : List Addr}
    (I : Inv X pins σ H s) (hN : X.N = N) (hE : X.env.scope = scE) (ck : CompOkC N N' sc scE cap) (c1 : ∀ x c,cl.lookup x = some c -> X.env.cells.lookup x = some c) (c2 : ∀ x ∈ sc.names,x.2 = .free -> ∃ c,cl.lookup x.1 = some c)
    (hf : ∀ b ∈ fp,FpOk X pins H b) (hfs : ∀ b ∈ fp,b < s.heap.objs.size) :
    Inv (blkC X N' sc (cellsFrom (s.heap.objs.size + 1) sc.names cl) s.heap.objs.size s H fp) [] (capOf cap σ) H { s with heap:=pushCells (s.heap.push { cls:=.type "dict",data:=.dict #[] }) sc.names }:=by
  obtain ⟨h₁,hh₁⟩ : ∃ h₁,pushCells (s.heap.push { cls:=.type "dict",data:=.dict #[] }) sc.names = h₁:=⟨_,rfl⟩
  obtain ⟨cl',hcl'⟩ : ∃ cl',cellsFrom (s.heap.objs.size + 1) sc.names cl = cl':=⟨_,rfl⟩
  rw [hh₁,hcl']
  have keep : ∀ b o,s.heap.get? b = some o -> h₁.get? b = some o:=fun b o e=>by rw [<- hh₁]; exact pushCells_keeps _ _ b o (Heap.get?_push_of_some _ e)
  have hns : h₁.Ns s.heap.objs.size (fun _=>none):=by rw [<- hh₁]; exact (Heap.Ns.new s.heap (.type "dict")).keeps (pushCells_keeps _ _)
  have look : ∀ x c,cl'.lookup x = some c -> cl.lookup x = some c \/ (s.heap.objs.size + 1 <= c /\ h₁.IsCell c none):=fun x c e=>by
    rw [<- hcl'] at e
    have:=cellsFrom_look (sc.names) (s.heap.push { cls:=.type "dict",data:=.dict #[] }) cl x c (by rw [Heap.size_push]; exact e)
    rw [Heap.size_push,hh₁] at this
    rcases this with z | ⟨_,z,z'⟩
    · exact .inl z
    · exact .inr ⟨z,z'⟩
  have cellLt : ∀ x c,cl.lookup x = some c -> c < s.heap.objs.size:=fun x c e=>by
    obtain ⟨v,o,ho,_⟩:=I.cell x c (c1 x c e)
    exact Heap.lt_size ho
  have inj : ∀ x y c,cl'.lookup x = some c -> cl'.lookup y = some c -> x = y:=by
    rw [<- hcl']
    exact cellsFrom_inj _ _ _ (fun x c e=>Nat.lt_succ_of_lt (cellLt x c e)) fun x y c a b=>I.ok.inj x y c (c1 x c a) (c1 y c b)
  have isC : ∀ x,sc.names.lookup x = some .cell -> ∃ c,cl'.lookup x = some c:=fun x e=>by
    rw [<- hcl']
    exact Option.isSome_iff_exists.mp (PySem.W.cellsFrom_some _ _ _ (.inl e))
  have isF : ∀ x,sc.names.lookup x = some .free -> cl'.lookup x = cl.lookup x:=fun x e=>by
    rw [<- hcl']
    refine cellsFrom_old _ _ _ fun z=>?_
    have:=ck.cel _ z rfl
    rw [e] at this; cases this
  have kindOf : ∀ x k,(compEnvC sc cl' s.heap.objs.size X.env).kindOf x = some k -> k = .cell \/ k = .free -> sc.names.lookup x = some .free \/ sc.names.lookup x = some .cell:=fun x k e hk=>by
    have e' : (relabel sc X.env).names.lookup x = some k:=e
    rw [relabel_lookup] at e'
    cases q : sc.names.lookup x with
    | none=>rw [q] at e'; cases e'
    | some k'=>
      rw [q] at e'
      have e'' : (if (k' == NameKind.free && X.env.scope.kind == .function && X.env.kindOf x == some .cell) = true then NameKind.cell else k') = k:=Option.some.inj e'
      by_cases hc : (k' == NameKind.free && X.env.scope.kind == .function && X.env.kindOf x == some .cell) = true
      · simp only [Bool.and_eq_true,beq_iff_eq] at hc
        rw [hc.1.1]; exact .inl rfl
      · rw [if_neg hc] at e''
        subst e''
        rcases hk with z | z
        · rw [z]; exact .inr rfl
        · rw [z]; exact .inl rfl
  have cellAt : ∀ x c,X.env.cells.lookup x = some c -> ∀ v,s.heap.IsCell c v -> h₁.IsCell c v:=fun x c e v ⟨o,ho,hd⟩=>⟨o,keep c o ho,hd⟩
  have Hnew : ∀ c,s.heap.objs.size <= c -> H c = none:=fun c hc=>I.hok.fresh hc
  refine ⟨⟨I.ok.mod,ck.kind,I.ok.glob,I.ok.blt,Nat.le_refl _,inj,fun x hx=>?_,fun x c h1 h2=>?_,I.ok.hd,I.ok.frames,.inl rfl,fun b hb=>?_,I.bs,
    Nat.le_trans I.ok.bsz I.sz,fun b o e hb=>?_,fun b hb hz=>?_,I.stack,I.stkFree⟩,rfl,I.bare,Un.kept keep,⟨_,hns,fun i x v e1 e2 e3=>?_⟩,fun x c e=>?_,Hnew _ (Nat.le_refl _),fun x c e=>?_,fun p hp=>(by cases hp),I.hok.kept keep,?_⟩
  · have hx : (compEnvC sc cl' s.heap.objs.size X.env).kindOf x = some .cell \/ (compEnvC sc cl' s.heap.objs.size X.env).kindOf x = some .free:=hx
    have q : sc.names.lookup x = some .free \/ sc.names.lookup x = some .cell:=by
      rcases hx with z | z
      · exact kindOf x _ z (.inl rfl)
      · exact kindOf x _ z (.inr rfl)
    rcases q with q | q
    · obtain ⟨c,hc⟩:=c2 _ (PySem.mem_of_lookup q) rfl
      exact ⟨c,(isF x q).trans hc⟩
    · exact isC x q
  · have h1 : sc.names.lookup x = some .cell:=by simpa [blkC] using h1
    have h2 : cl'.lookup x = some c:=h2
    rw [<- hcl'] at h2
    exact Nat.le_trans (Nat.le_succ _) (cellsFrom_new _ _ _ (PySem.mem_of_lookup h1) h2)
  · refine ⟨Nat.ne_of_lt (hfs b hb),fun x c e=>?_⟩
    rcases look x c e with z | ⟨z,_⟩
    · exact (hf b hb).2.2.2.2.1 x c (c1 x c z)
    · exact fun q=>absurd (Nat.lt_of_lt_of_le (hfs b hb) (Nat.le_trans (Nat.le_succ _) (q ▸ z))) (Nat.lt_irrefl _)
  · rcases (hf b hb).2.2.2.1 with z | z
    · exact I.ok.noex b o e z
    · exact absurd (Nat.lt_of_lt_of_le (Heap.lt_size e) (Nat.le_trans I.ok.bsz z)) (Nat.lt_irrefl _)
  · rcases List.mem_cons.mp (I.stkSub b hz) with e | z
    · exact (hf b hb).2.1 e
    · exact (hf b hb).2.2.1 z
  · have e1 : N'[i]? = some x:=e1
    have e2 : (capOf cap σ)[i]? = some (some v):=e2
    unfold capOf at e2
    rw [List.getElem?_map] at e2
    cases q : cap[i]? with
    | none=>rw [q] at e2; cases e2
    | some oj=>
      rw [q] at e2
      cases oj with
      | none=>cases e2
      | some j=>
        obtain ⟨y,z1,z2,z3⟩:=ck.at_ i j q
        rw [e1] at z1; cases z1
        have ev : σ[j]? = some (some v):=by
          have e2' : (σ[j]?).join = some v:=Option.some.inj e2
          cases r : σ[j]? with
          | none=>rw [r] at e2'; cases e2'
          | some o=>rw [r] at e2'; exact congrArg some e2'
        obtain ⟨m',hm',hl⟩:=I.loc
        have sK : X.env.scope.names.lookup x = some .cell \/ X.env.scope.names.lookup x = some .free:=by rw [hE]; exact ck.fre _ (PySem.mem_of_lookup z3) rfl
        obtain ⟨u,ru,l⟩:=hl j x v (by rw [hN]; exact z2) ev (sK.elim (fun z=>.inr (.inl z)) fun z=>.inr (.inr z))
        refine ⟨u,ru,?_⟩
        obtain ⟨c,hc⟩:=c2 _ (PySem.mem_of_lookup z3) rfl
        rcases l with ⟨k,_⟩ | ⟨k,c',hc',hcell⟩
        · have k : X.env.scope.names.lookup x = some .local:=k
          rcases sK with z | z <;> (rw [k] at z; cases z)
        · have : c = c':=by
            have q1:=c1 x c hc
            rw [hc'] at q1
            exact (Option.some.inj q1).symm
          subst this
          refine .inr ⟨?_,c,(isF x z3).trans hc,cellAt x c hc' _ hcell⟩
          show (relabel sc X.env).names.lookup x = some .cell \/ (relabel sc X.env).names.lookup x = some .free
          rw [relabel_lookup,z3]
          show some (if _ then NameKind.cell else NameKind.free) = _ \/ some (if _ then NameKind.cell else NameKind.free) = _
          split
          · exact .inl rfl
          · exact .inr rfl
  · rcases look x c e with z | ⟨_,z⟩
    · obtain ⟨v,q⟩:=I.cell x c (c1 x c z)
      exact ⟨v,cellAt x c (c1 x c z) v q⟩
    · exact ⟨_,z⟩
  · rcases look x c e with z | ⟨z,_⟩
    · exact I.freeC x c (c1 x c z)
    · exact Hnew c (by omega)
  · unfold capOf
    show _ = N'.length
    rw [List.length_map]
    exact ck.len
end
end L2
namespace L2
open PySem PySem.Spec PyProof.Rows
section
variable {X : Cx}
theorem two_of {x y : V} {us : List Value} (r : Vals [x,y] us) : ∃ u w,us = [u,w] /\ RelV x u /\ RelV y w:=by
  cases r with
  | cons a r=>
    cases r with
    | cons b r=>
      cases r with
      | nil=>exact ⟨_,_,rfl,a,b⟩
end
end L2
namespace PySem
open Sem (wp)
section
variable {prog : Program} {w : World} {A : Around} {E : Value -> Shared -> Prop} {hp : Heap} {gs : Array GenState} {dr : Drawn} {tk : Nat} {sy : OsState}
variable {cn cq : Str} {kC kN : Addr} {bas tl tB : List Value} {hd : Bool} {sns : List Str} {subs : List Value} {abb : Bool} {coll : Option Bool} {dic : Option Addr} {j0 j1 j2 j3 j5 : Option Value} {BB Bn newI nI initI inN : String} {tN : List Value}
theorem typeCall_initU (Fn : ExcBaseFacts Bn newI inN tN) (hBn : tB.contains (.type Bn) = true) (F : ExcBaseFacts BB nI initI tB) (T : OwnTail hp tB tl) {rest : List Value} {f0 : Addr} {o0 : Obj} {Q : Fin -> Shared -> Prop}
    (oC : hp.get? kC = some (excClassObj cn cq kC kN bas tl hd sns subs abb coll dic j0 j1 j2 j3 j5 newI)) {K : PySem.W.Frag} (X : K.In hp) (ei : PySem.W.findIn K (.ref kC) "__init__" = some (some (.ref f0))) (of : hp.get? f0 = some o0) (cf : o0.cls = .type "function")
    (hq : ∀ h',(∀ b o,hp.get? b = some o -> h'.get? b = some o) -> h'.get? (hp.objs.size + 1) = some { cls:=.ref kC,data:=.fields #[.ref hp.objs.size,.none,.none,.none,.bool false,.none] } -> wpAny (model prog w) A (call (.ref f0) (.ref (hp.objs.size + 1) :: rest)) (fun r s'=>r = .none /\ Q (.done (.ret (.ref (hp.objs.size + 1)))) s') E ⟨h',gs,dr,tk,sy⟩) (hz : rest.length <= sizeLine) :
    wpAny (model prog w) A (Builtin.«type.__call__» ⟨.ref kC :: rest,[]⟩) Q E ⟨hp,gs,dr,tk,sy⟩:=by
  repeat (first | with_reducible refine wpAny_loadPart_at oC ?_ | with_reducible refine wpAny_madeBy_exc oC ?_ | wp_step)
  refine codeAny_call_builtin_code (Code.quiet_builtin _ Fn.quiet) (wpAny_check_new_subU Fn hBn T oC ?_)
  refine codeAny_exc_new_subU Fn hBn F T oC ?_ hz
  show wpAny _ _ _ _ _ _
  obtain ⟨h2,e2⟩ : ∃ h2,(hp.push { cls:=.type "tuple",data:=.seq rest.toArray }).push { cls:=.ref kC,data:=.fields #[.ref hp.objs.size,.none,.none,.none,.bool false,.none] } = h2:=⟨_,rfl⟩
  have kp : ∀ b o,hp.get? b = some o -> h2.get? b = some o:=fun b o q=>by rw [<- e2]; exact Heap.get?_push_of_some _ (Heap.get?_push_of_some _ q)
  have oe : h2.get? (hp.objs.size + 1) = some { cls:=.ref kC,data:=.fields #[.ref hp.objs.size,.none,.none,.none,.bool false,.none] }:=by rw [<- e2]; heap_get
  have ot : h2.get? hp.objs.size = some { cls:=.type "tuple",data:=.seq rest.toArray }:=by rw [<- e2]; exact Heap.get?_push_of_some _ (Heap.get?_push_at rfl rfl)
  rw [e2]
  have oC2:=kp _ _ oC
  have self : (Value.ref kC :: tl).contains (.ref kC) = true:=by simp
  unfold isInstance
  repeat (first | with_reducible refine wpAny_loadPart_at oe ?_ | (with_reducible refine wpAny_isSubtype_exc oC2 ?_; rw [self]) | wp_step)
  show wpAny _ _ (typeLookup (.ref kC) _) _ _ _
  refine (PySem.W.looks_findIn (X.keeps kp) ei).at ?_
  refine wpAny_holding (wpAny_bind ?_)
  unfold bindSpecial
  refine wpAny_bind (wpAny_typeOf (T := "function") ⟨_,kp _ _ of,cf⟩ ?_)
  rw [if_pos (by decide)]
  refine wpAny_pure (wpAny_bind (wpAny_mono (hq h2 kp oe) (fun r s' z=>?_) fun _ _ z=>z))
  obtain ⟨rfl,z⟩:=z
  wp_walk
  exact z
theorem call_initU (Fn : ExcBaseFacts Bn newI inN tN) (hBn : tB.contains (.type Bn) = true) (F : ExcBaseFacts BB nI initI tB) (T : OwnTail hp tB tl) {rest : List Value} {f0 : Addr} {o0 : Obj} {Q : Value -> Shared -> Prop}
    (oC : hp.get? kC = some (excClassObj cn cq kC kN bas tl hd sns subs abb coll dic j0 j1 j2 j3 j5 newI)) {K : PySem.W.Frag} (X : K.In hp) (ei : PySem.W.findIn K (.ref kC) "__init__" = some (some (.ref f0))) (of : hp.get? f0 = some o0) (cf : o0.cls = .type "function")
    (hq : ∀ h',(∀ b o,hp.get? b = some o -> h'.get? b = some o) -> h'.get? (hp.objs.size + 1) = some { cls:=.ref kC,data:=.fields #[.ref hp.objs.size,.none,.none,.none,.bool false,.none] } -> wpAny (model prog w) (A.under (.builtin "type.__call__" ⟨.ref kC :: rest,[]⟩)) (call (.ref f0) (.ref (hp.objs.size + 1) :: rest)) (fun r s'=>r = .none /\ Q (.ref (hp.objs.size + 1)) s') E ⟨h',gs,dr,tk,sy⟩) (hz : rest.length <= sizeLine) :
    wpAny (model prog w) A (call (.ref kC) rest) Q E ⟨hp,gs,dr,tk,sy⟩:=by
  have l1:=tc_lookup
  have l2:=tc_bind (.ref kC)
  have ty : (⟨hp,gs,dr,tk,sy⟩ : Shared).TypeIs (.ref kC) "type" := ⟨_,oC,rfl⟩
  refine wpAny_call (codeAny_of_tree ?_)
  show wpAny _ _ (callAny (.ref kC) _) _ _ _
  repeat (any_goals (first | assumption | with_reducible refine wpAny_loadPart_at oC ?_ | wp_step))
  refine ⟨rfl,?_⟩
  exact codeAny_call_builtin_at (Code.quiet_builtin _ (by decide +kernel)) entry_typeCall (wpAny_check_type_call_sub oC (typeCall_initU (hz:=hz) Fn hBn F T oC X ei of cf fun h' k m=>hq h' k m))
end
section
variable {M : Model} {A : Around} {E : Value -> Shared -> Prop} {env : Env}
variable {cn cq : Str} {kC kN : Addr} {bas tl : List Value} {hd : Bool} {sns : List Str} {subs : List Value} {abb : Bool} {coll : Option Bool} {dic : Option Addr} {j0 j1 j2 j3 j5 : Option Value} {newI : String}
theorem raiseStmt_own {s : Shared} {x : Sem Value} {Q : Flow -> Shared -> Prop} (hb : tl.contains (.type "BaseException") = true) (hh : A.handled = none)
    (h : wpAny M A x (fun v s1=>∃ e t dv,v = .ref e /\ s1.heap.get? kC = some (excClassObj cn cq kC kN bas tl hd sns subs abb coll dic j0 j1 j2 j3 j5 newI) /\
      s1.heap.get? e = some { cls:=.ref kC,dict:=dv,data:=.fields #[.ref t,.none,.none,.none,.bool false,.none] } /\ E (.ref e) s1) E s) : wpAny M A (raiseStmt env (some x) none) Q E s:=by
  have cb : (Value.ref kC :: tl).contains (.type "BaseException") = true:=by rw [List.contains_cons,hb,Bool.or_true]
  unfold raiseStmt
  refine wpAny_bind (wpAny_mono h (fun v s1 z=>?_) fun _ _ z=>z)
  obtain ⟨e,t,dv,rfl,oC,oe,z⟩:=z
  obtain ⟨hp,gs,dr,tk,sy⟩:=s1
  repeat (first | with_reducible refine wpAny_loadPart_at oe ?_ | with_reducible refine wpAny_loadPart_at oC ?_ | (with_reducible refine wpAny_isSubtype_exc oC ?_; rw [cb]) | wp_step)
  exact wpAny_raiseNew_none hh z
end
end PySem
namespace L2
open PySem PySem.Spec PyProof.Rows PySem.W PySem.Builtin.ObjectAttr
structure XSet (K : Frag) (C W : Addr) (name : Str) : Prop where
  sa : findIn K (.ref C) "__setattr__" = some (some (.builtin "object.__setattr__"))
  ob : mroIn K C (.type "object") = some true
  cls : ∃ cd,clsIn K C = some cd /\ cd.mro = .ref C :: .ref W :: bmVE /\ cd.hasDict = true
  no : findIn K (.ref C) name = some none
section
variable {prog : Program} {w : World} {A : Around} {E : Value -> Shared -> Prop} {s : Shared} {K : Frag} {x C W : Addr} {name : Str} {v : Value}
theorem x_store {vs : Array Value} {Q : Unit -> Shared -> Prop} (X : K.In s.heap) (S : XSet K C W name) (oe : s.heap.get? x = some { cls:=.ref C,data:=.fields vs })
    (hq : ∀ h' tk,h'.get? x = some { cls:=.ref C,dict:=some s.heap.objs.size,data:=.fields vs } -> h'.Ns1 s.heap.objs.size (fun y=>if y = name then some v else none) ->
      (∀ b o,b ≠ x -> s.heap.get? b = some o -> h'.get? b = some o) -> Q () { s with heap:=h',toks:=tk }) : wpAny (model prog w) A (setAttr (.ref x) name v) Q E s:=by
  have J : InstAt s.heap x { cls:=.ref C,data:=.fields vs } C none:=⟨oe,rfl,rfl,True.intro⟩
  obtain ⟨cd,hc,hm,hd⟩:=S.cls
  refine set_plain X J S.sa ?_
  have SF:=PySem.F.store_ValueError
  have sub : Looks (model prog w) s.heap (isInstance (.ref x) (.type "object")) true:=J.type.andThen (looks_mroIn X S.ob)
  refine codeAny_call_builtin SF.slot.plain SF.entry (@check_slot (model prog w) _ _ { s with toks:=s.toks + 1 } "object.__setattr__" "object" "__setattr__" (.ref x) [.str name s.toks,v] [] _ SF.kind SF.split sub (SF.args (.ref x) (.str name s.toks) v) ?_)
  have lm : Looks (model prog w) s.heap (mroOf (.ref C)) cd.mro:=(looks_clsIn X hc).andThen .now
  rw [osa_eq,refuse_eq]
  refine wpAny_bind (wpAny_bind (Looks.here (s:={ s with toks:=s.toks + 1 }) J.type (wpAny_bind (Looks.here (s:={ s with toks:=s.toks + 1 }) lm ?_))))
  rw [hm,refuseLoop_ref,refuseLoop_ref,SF.passes]
  refine wpAny_pure (wpAny_bind (Looks.here (s:={ s with toks:=s.toks + 1 }) J.type (wpAny_bind (Looks.here (s:={ s with toks:=s.toks + 1 }) (looks_findIn X S.no) (wpAny_bind (wpAny_pure ?_))))))
  dsimp only
  unfold storeInOwnDict
  refine wpAny_bind (wpAny_pure (wpAny_bind ?_))
  unfold ownDictForStores instanceDict
  refine wpAny_bind (wpAny_loadPart oe (wpAny_bind (Looks.here (s:={ s with toks:=s.toks + 1 }) (looks_clsIn X hc) ?_)))
  rw [hd]
  have od : (s.heap.push { cls:=.type "dict",data:=.dict #[] }).get? x = some { cls:=.ref C,data:=.fields vs }:=Heap.get?_push_of_some _ oe
  have xs : x ≠ s.heap.objs.size:=Nat.ne_of_lt (Heap.lt_size oe)
  have th : typeHasDict (.ref C) = true:=rfl
  dsimp only
  rw [if_neg (by decide),if_neg (by rw [th]; decide)]
  refine wpAny_bind (wpAny_alloc' ?_)
  refine wpAny_bind (wpAny_update' od ?_)
  refine wpAny_pure ?_
  obtain ⟨h2,e2⟩ : ∃ h2,((s.heap.push { cls:=.type "dict",data:=.dict #[] }).update x fun o=>{ cls:=o.cls,dict:=some s.heap.objs.size,data:=o.data,slots:=o.slots }) = h2:=⟨_,rfl⟩
  have g2 : h2.get? s.heap.objs.size = some { cls:=.type "dict",data:=.dict #[] }:=by rw [<- e2]; exact (Heap.get?_update_ne _ _ _ _ xs.symm).trans (Heap.get?_push_at rfl rfl)
  have x2 : h2.get? x = some { cls:=.ref C,dict:=some s.heap.objs.size,data:=.fields vs }:=by rw [<- e2]; exact Heap.get?_update_self _ od rfl
  have k2 : ∀ b o,b ≠ x -> s.heap.get? b = some o -> h2.get? b = some o:=fun b o n q=>by rw [<- e2]; exact (Heap.get?_update_ne _ _ _ _ n).trans (Heap.get?_push_of_some _ q)
  have n2 : h2.Ns s.heap.objs.size (fun _=>none):=⟨_,#[],_,g2,rfl,fun e he=>absurd he (by simp),fun _=>rfl⟩
  show wpAny _ _ (storeInDict s.heap.objs.size (.str name s.toks) name v) _ _ _
  rw [e2]
  unfold storeInDict newKeyGuard
  refine wpAny_bind (wpAny_pure (wpAny_bind (wpAny_nsSet1 (Heap.Ns1.of_empty n2) fun h' n' sb=>?_)))
  obtain ⟨oD,esD,epD,hoD,hdD,hcD⟩:=n'.count (Within.cons name v Within.nil)
  refine wpAny_bind (wpAny_lookBehind hoD (by rw [hdD]; exact pastItsLine_dict (Nat.le_trans hcD (by rw [List.length_cons,List.length_nil,sizeLine_eq]; omega))) ?_)
  exact wpAny_pure (hq h' _ ((sb.2 x xs).trans x2) n' fun b o n q=>(sb.2 b (Nat.ne_of_lt (Heap.lt_size q))).trans (k2 b o n q))
end
end L2
namespace L2
open PySem PySem.Spec PyProof.Rows PySem.W
def XO (x C : Addr) (dv : Option Addr) (h : Heap) : Prop:=∃ t,h.get? x = some { cls:=.ref C,dict:=dv,data:=.fields #[.ref t,.none,.none,.none,.bool false,.none] }
theorem xo_ok {P : Program} {w : World} {H : Hp} {h : Heap} {x C : Addr} {dv : Option Addr} (o : XO x C dv h) : ObjOk P w H h x (.ext (XO x C dv)):=
  ⟨o,o.elim fun t e=>⟨_,e⟩,fun h1 h2 ⟨t,e⟩ k=>⟨t,k _ e⟩⟩
structure XMade (K : Frag) (C W f : Addr) : Prop where
  lk : ∃ nm q N bs sn sub ab col dd k0 k1 k2 k3 k5,K.lookup C = some (excClassObj nm q C N bs (.ref W :: bmVE) true sn sub ab col dd k0 k1 k2 k3 k5 "ValueError.__new__")
  xw : excIn K W bmVE "ValueError.__new__" = true
  fi : findIn K (.ref C) "__init__" = some (some (.ref f))
  ff : ∃ o,K.lookup f = some o /\ o.cls = .type "function"
  kp : keepIn K (.ref C) = true
theorem XMade.tail {K : Frag} {C W f : Addr} {h : Heap} (M : XMade K C W f) (X : K.In h) : OwnTail h bmVE (.ref W :: bmVE):=by
  obtain ⟨tl,N,nm,qn,bs,hdct,sn,sub,ab,col,dd,k0,k1,k2,k3,k5,mN,hC,hN,hni,T⟩:=(own_obj (mg:=fun _=>some (.ref W)) (x := "W") X rfl M.xw).obj
  exact .own hC hN hni .base
section
variable {prog : Program} {w : World} {A : Around} {E : Value -> Shared -> Prop} {s : Shared} {K : Frag} {x C W f : Addr}
theorem x_init {u : Value} {Q : Value -> Shared -> Prop} (X : K.In s.heap) (M : XMade K C W f) (o : XO x C none s.heap)
    (hq : ∀ h',(∀ b o,b ≠ x -> s.heap.get? b = some o -> h'.get? b = some o) -> XO x C none h' -> Q .none { s with heap:=h' }) : wpAny (model prog w) A (call (.builtin "ValueError.__init__") [.ref x,u]) Q E s:=by
  obtain ⟨t,oe⟩:=o
  obtain ⟨nm,q,N,bs,sn,sub,ab,col,dd,k0,k1,k2,k3,k5,lk⟩:=M.lk
  obtain ⟨hp,gs,dr,tk,sy⟩:=s
  refine wpAny_call (codeAny_call_builtin PySem.F.excBase_ValueError.init.plain PySem.F.excBase_ValueError.initEntry (wpAny_check_init_subU PySem.F.excBase_ValueError (M.tail X) (X _ _ lk) oe rfl ?_))
  wp_walk
  refine hq _ (fun b o n e=>?_) ⟨hp.objs.size,?_⟩
  · rw [Heap.get?_update_other _ _ (Ne.symm n)]
    exact Heap.get?_push_of_some _ e
  · rw [Heap.get?_update_self _ (Heap.get?_push_of_some _ oe) rfl]
    rfl
end
section
variable {X : Cx} {x C W f : Addr}
structure XCall (K : Frag) (W : Addr) : Prop where
  ga : specialIn K (.ref W) "__getattribute__" = some (some (.builtin "type.__getattribute__"))
  rd : readsIn K W (.type "type") = true
  fc : findCls K (.ref W) (.type "type") "__init__" = some (.val (.builtin "ValueError.__init__"))
def tXI (K : Frag) (C W f : Addr) (t : TA) : TE:=fun σ H Q=>t σ H fun vs H1=>∃ x y,vs = [.ref x,y] /\ H1 x = some (.ext (XO x C none)) /\ Q .non H1
theorem pe_xinit {n : Str} {p apos pos : Pos} {a b : Expr} {t : TA} {pl : Sem Bool} (M : XMade X.K C W f) (L : XCall X.K W) (hg : Gl X n) (hm : X.mg n = some (.ref W)) (ha : PA X [a,b] t) (hdb : (n == ("__debug__" : Str)) = false:=by decide)
    (hst : starEach [a,b] X.env = [(false,eval a X.env),(false,eval b X.env)]:=by rfl)
    (ht : eval (.Call (.Attribute (.Name n p) "__init__" apos) [a,b] [] pos) X.env = (do
      let ov <- eval (.Name n p) X.env
      standAt apos.atName
      let (g,first) <- holding [ov] (getMethod ov "__init__" pl)
      callWith pos g first (backTo pos (starEach [a,b] X.env)) (backToKw pos (keywordEach [] X.env))):=by rfl) :
    PE X (.Call (.Attribute (.Name n p) "__init__" apos) [a,b] [] pos) (tXI X.K C W f t):=by
  intro pins s σ H Q I h
  refine methodCall_KW (pl:=pl) (ld_glob I hg hm ?_ hdb) ht
  refine method_cls I.kIn L.ga (cls_value I.kIn L.rd L.fc (by first | rfl | kernel_rfl) ?_)
  have I1 : Inv X pins σ H { s with toks:=s.toks + 1 }:=I.tok _
  have hA:=ha pos pins _ σ H _ I1 h
  rw [hst] at hA ⊢
  refine Calls.callWith_builtin rfl (Calls.evalArgs_plain ?_)
  refine thn hA fun us s2 ⟨vs,H2,I2,r2,x,y,e,hx,q⟩=>?_
  subst e
  obtain ⟨u1,u2,rfl,r1,r3⟩:=two_of r2
  cases r1
  refine x_init I2.kIn M (I2.hok x _ hx).1 fun h' kk o=>?_
  refine ⟨.non,H2,?_,rfl,q⟩
  have:=I2.write (x:=x) (e:=x) (o:=.ext (XO x C none)) (t':=s2.toks) (h':=h') (by rw [hx]; exact trivial) (.inl rfl) kk (o.elim fun t e=>⟨_,e⟩) (xo_ok o)
  have eq : upd H2 x (.ext (XO x C none)) = H2:=by
    funext b
    by_cases z : b = x
    · subst z; rw [upd_same,hx]
    · rw [upd_ne z]
  rw [eq] at this
  exact this
theorem Inv.trackO {pins : List (Addr × Obj)} {σ : St} {H H' : Hp} {s s1 : Shared} {a : Addr} {ho : HO} (I0 : Inv X pins σ H s) (hex : ∀ b,b ∉ X.ex) (h0 : s.heap.get? a = none) (I : Inv X pins σ H' s1) (hn : H' a = none) (o : ObjOk X.prog X.w (upd H' a ho) s1.heap a ho) : Inv X pins σ (upd H' a ho) s1:=by
  have ne0 : ∀ b u,s.heap.get? b = some u -> b ≠ a:=fun b u e z=>by rw [z,h0] at e; cases e
  have nes : ∀ b u,X.s₀.heap.get? b = some u -> b ≠ a:=fun b u e=>by
    obtain ⟨u',e'⟩:=I0.base.there b u e (hex b)
    exact ne0 b u' e'
  refine ⟨I.ok,I.os,I.bare,?_,I.loc,I.cell,?_,?_,?_,?_,I.len⟩
  · have u0:=I.base
    exact ⟨u0.keep,u0.slot,fun c o e n hx=>by rw [upd_ne (nes c o e)]; exact u0.free c o e n hx,u0.there,
      fun c ts e=>by have:=u0.tups c ts e; rw [upd_ne (ne_of_none this hn)]; exact this,
      fun c o ts e=>by have:=u0.frzs c o ts e; rw [upd_ne (ne_of_none this hn)]; exact this,
      fun c ps e=>by obtain ⟨more,q⟩:=u0.tbls c ps e; exact ⟨more,by rw [upd_ne (ne_of_none q hn)]; exact q⟩⟩
  · obtain ⟨m,⟨o,_,_,e,_⟩,_⟩:=I0.loc
    rw [upd_ne (ne0 _ _ e)]; exact I.free
  · intro x c e
    obtain ⟨v,o,z,_⟩:=I0.cell x c e
    rw [upd_ne (ne0 _ _ z)]; exact I.freeC x c e
  · intro p hp
    obtain ⟨e,n,ne,nf,d⟩:=I.pin p hp
    exact ⟨e,by rw [upd_ne (ne0 _ _ (I0.pin p hp).1)]; exact n,ne,nf,d⟩
  · intro c u q
    by_cases hc : c = a
    · subst hc
      rw [upd_same] at q; cases q
      exact o
    · rw [upd_ne hc] at q
      exact (I.hok c u q).stay (fun _ _ _ r=>r) (fun c' r=>by rw [upd_ne (ne_of_none r hn)]; exact r) fun c' ts r=>by rw [upd_ne (ne_of_none r hn)]; exact r
def tXS (C : Addr) (name : Str) (ta tv : TE) : TS:=fun D σ H=>tv σ H fun y H1=>ta σ H1 fun v H2=>∃ x,v = .ref x /\ H2 x = some (.ext (XO x C none)) /\
  ∀ dx,H2 dx = none -> dx ≠ x -> D.nx σ (upd (upd H2 x (.ext (XO x C (some dx)))) dx (.xd [(name,y)]))
theorem ps_xset {o value : Expr} {name : Str} {ta tv : TE} {pos pos' : Pos} (hex : ∀ b,b ∉ X.ex) (S : XSet X.K C W name) (ha : PE X o ta) (hv : PE X value tv) (hs : swapsWith value (some (.Attribute o name pos')) pos.line X.env = pure false:=by rfl) :
    PS X (.Assign [.Attribute o name pos'] value pos) (tXS C name ta tv):=by
  intro pins s σ H D I h
  refine plainObj_wpAny_Assign_Attribute (thn (hv pins s σ H _ I h) fun u s1 ⟨y,H1,I1,ry,q⟩=>thn (ha pins s1 σ H1 _ I1 q) fun ov s2 ⟨v,H2,I2,rx,x,ex,hx,q2⟩=>?_) hs
  subst ex
  obtain rfl : ov = Value.ref x:=rx
  obtain ⟨t,oe⟩:=(I2.hok x _ hx).1
  refine x_store I2.kIn S oe fun h' tk o' n' kk=>?_
  have xs : s2.heap.objs.size ≠ x:=Nat.ne_of_gt (Heap.lt_size oe)
  have I3:=I2.write (x:=x) (e:=x) (o:=.ext (XO x C (some s2.heap.objs.size))) (t':=tk) (h':=h') (by rw [hx]; exact trivial) (.inl rfl) kk ⟨_,o'⟩ (xo_ok ⟨t,o'⟩)
  refine ⟨σ,_,?_,q2 s2.heap.objs.size I2.fresh xs⟩
  refine Inv.trackO I2 hex (Heap.get?_none_of_le (Nat.le_refl _)) I3 (by rw [upd_ne xs]; exact I2.fresh) ⟨_,n',fun g=>?_⟩
  show RelO ([(name,y)].lookup g) (if g = name then some u else none)
  by_cases z : g = name
  · subst z
    rw [if_pos rfl,List.lookup_cons,show (g == g) = true by simp]
    exact ry
  · have : (g == name) = false:=by simpa using z
    rw [if_neg z,List.lookup_cons,this]
    exact trivial
end
end L2
namespace PySem
open Sem (wp)
def fld2 (o : Obj) : Option Value:=match o.data with | .fields vs=>vs[2]? | _=>none
theorem fld2_map {o : Obj} {vs : Array Value} {x : Value} (od : o.data = .fields vs) : fld2 (Obj.mapFields (·.setIfInBounds 1 x) o) = fld2 o:=by
  have d:=Obj.data_mapFields od (·.setIfInBounds 1 x)
  unfold fld2
  rw [d,od]
  exact Array.getElem?_setIfInBounds_ne (by decide)
section
variable {M : Model} {A : Around} {E : Value -> Shared -> Prop} {s : Shared} {bs : Heap} {en : Env} {ou : List Env} {L e : Addr} {ob : Obj} {vs : Array Value} {a0 : Value} {Q : Unit -> Shared -> Prop}
theorem entry_dict {head : Value} {nx : Bool} (fr : A.frames = some (en :: ou)) (ff : s.heap.FunFrames bs (en :: ou)) (ef : en.frame = some L) (oe : s.heap.get? e = some ob) (kb : bs.StaysIn s.heap) (ne : bs.get? e = none)
    (od : ob.data = .fields vs) (z1 : 1 < vs.size) (z0 : vs[0]? = some a0)
    (h : ∀ h',Heap.LeftW bs (en :: ou) e ob.cls a0 s.heap h' -> (∃ o',h'.get? e = some o' /\ o'.dict = ob.dict /\ fld2 o' = fld2 ob) -> Q () { s with heap:=h' }) :
    wpAny M A (do
      let a <- frameOf en
      let pl <- entryPlaceOf L nx
      let b <- EntryCells.newEntry head a .none (rawInt L) .none pl
      setField (.ref e) 1 b) (fun _ s'=>wpAny M A (setFlight (.ref e) none) Q E s') E s:=by
  have nf : e ∉ (en :: ou).filterMap (·.frame):=fun m=>by
    obtain ⟨_,o,q,n⟩:=ff.mem m
    rw [oe] at q
    cases q
    exact n vs od
  refine wpAny_bind (wpAny_frameOf_fun fr ff ef fun g gs=>?_)
  refine wpAny_bind (wpAny_entryPlaceOf fun pl hp=>?_)
  unfold EntryCells.newEntry newFields
  refine wpAny_bind (wpAny_newObj_type ?_ (hp.sizeOk5 _ _ _ _ _))
  have ge : g.get? e = some ob:=(gs.2.1 e nf).trans oe
  have gb : bs.StaysIn g:=fun b o q=>(gs.2.1 b fun m=>by
    rw [(ff.mem m).1] at q
    cases q).trans (kb b o q)
  obtain ⟨tb,etb⟩ : ∃ tb : List Value,[head,.ref L,.none,rawInt L,.none] ++ (if pl.isEmpty then List.replicate 6 Value.none else pl) = tb:=⟨_,rfl⟩
  have l5 : 3 < tb.length /\ tb[3]? = some (rawInt L):=by
    rw [<- etb]
    exact ⟨by simp,by simp⟩
  rw [etb]
  have ge2:=Heap.get?_push_of_some (h:=g) { cls:=.type "traceback",dict:=none,data:=.fields tb.toArray } ge
  refine wpAny_setField ge2 od z1 ?_
  have te : g.objs.size ≠ e:=Nat.ne_of_gt (Heap.lt_size ge)
  have d3:=Obj.data_mapFields od (·.setIfInBounds 1 (Value.ref g.objs.size))
  have ge3:=Heap.get?_update_self (Obj.mapFields (·.setIfInBounds 1 (Value.ref g.objs.size))) ge2 (Obj.isFreed_of_fields d3)
  have gt3:=(Heap.get?_update_other (g.push { cls:=.type "traceback",dict:=none,data:=.fields tb.toArray })
    (Obj.mapFields (·.setIfInBounds 1 (Value.ref g.objs.size))) te.symm).trans
    (Heap.get?_push_size g rfl)
  unfold setFlight
  refine wpAny_bind (wpAny_field ge3 d3 (x:=.ref g.objs.size) (by simp [z1]) ?_)
  rw [if_pos (show (Value.ref g.objs.size != Value.none) = true by simp)]
  refine wpAny_setField gt3 rfl (by simpa using l5.1) (h _ ?_ ?_)
  all_goals
    obtain ⟨g3,eg3⟩ : ∃ g3,((g.push { cls:=.type "traceback",dict:=none,data:=.fields tb.toArray }).update e (Obj.mapFields (·.setIfInBounds 1 (Value.ref g.objs.size)))) = g3:=⟨_,rfl⟩
    rw [eg3] at ge3 gt3 ⊢
  · have kp : ∀ b o,b ≠ e -> g.get? b = some o -> (g3.update g.objs.size (Obj.mapFields (·.setIfInBounds 3 ((none : Option Addr).elim Value.none fun f=>rawInt f)))).get? b = some o:=fun b o n q=>by
      rw [Heap.get?_update_other _ _ (Nat.ne_of_gt (Heap.lt_size q)),<- eg3,Heap.get?_update_other _ _ n.symm]
      exact Heap.get?_push_of_some _ q
    have nr : ∀ b o,s.heap.get? b = some o -> (∀ ws,o.data ≠ .fields ws) -> b ≠ e:=fun b o q n z=>by
      rw [z,oe] at q
      cases q
      exact n vs od
    refine ⟨fun b o q=>kp b o (fun z=>by rw [z,ne] at q; cases q) (gb b o q),ff.of_keeps fun b o q n=>?_,?_,fun b o q n=>?_⟩
    · obtain ⟨sl,z⟩:=gs.2.2 b o q
      exact ⟨_,kp b _ (nr b o q n) z,rfl⟩
    · refine ⟨_,_,g.objs.size,_,_,?_,⟨Obj.cls_mapFields _ _,?_⟩,d3,by simp [z1],gb.fresh,te,Heap.get?_update_self _ gt3 (Obj.isFreed_of_fields (Obj.data_mapFields rfl _)),Obj.data_mapFields rfl _,?_⟩
      · rw [Heap.get?_update_other _ _ te]
        exact ge3
      · rw [Array.getElem?_setIfInBounds_ne (by decide)]
        exact z0
      · have:=l5.1
        simp [this]
    · obtain ⟨sl,z⟩:=gs.2.2 b o q
      exact ⟨sl,kp b _ (nr b o q n) z⟩
  · refine ⟨_,(Heap.get?_update_other _ _ te).trans ge3,?_,fld2_map od⟩
    cases ob with
    | mk c d dt sl=>cases dt <;> first | rfl | cases od
theorem leave1_dict (fr : A.frames = some (en :: ou)) (ff : s.heap.FunFrames bs (en :: ou)) (ef : en.frame = some L) (oe : s.heap.get? e = some ob) (kb : bs.StaysIn s.heap) (ne : bs.get? e = none)
    (od : ob.data = .fields vs) (z1 : vs[1]? = some .none) (z0 : vs[0]? = some a0)
    (h : ∀ h',Heap.LeftW bs (en :: ou) e ob.cls a0 s.heap h' -> (∃ o',h'.get? e = some o' /\ o'.dict = ob.dict /\ fld2 o' = fld2 ob) -> Q () { s with heap:=h' }) : wpAny M A (leaving en (.ref e)) Q E s:=by
  unfold leaving noteFrame
  simp only [ef]
  refine wpAny_bind (wpAny_bind (wpAny_field oe od z1 ?_))
  rw [if_neg (by decide)]
  exact entry_dict fr ff ef oe kb ne od (Array.getElem?_eq_some_iff.mp z1).1 z0 h
theorem leave2_dict {cls : Value} {dv : Option Addr} (fr : A.frames = some (en :: ou)) (ef : en.frame = some L) (fl : Heap.FlyingW bs (en :: ou) e cls a0 s.heap) (dd : ∃ o',s.heap.get? e = some o' /\ o'.dict = dv /\ fld2 o' = some .none)
    (h : ∀ h',Heap.FlyingW bs ou e cls a0 h' -> (∃ o',h'.get? e = some o' /\ o'.dict = dv /\ fld2 o' = some .none) -> s.heap.UpToSlots h' -> Q () { s with heap:=h' }) : wpAny M A (leaving en (.ref e)) Q E s:=by
  obtain ⟨kb,ne,ff,oe,ws,T,oT,ts,he,⟨hc,z0⟩,od,z1,nT,Te,hT,dT,z3⟩:=fl
  obtain ⟨o',ho',hdv,hfl⟩:=dd
  rw [he] at ho'
  cases ho'
  unfold leaving noteFrame
  simp only [ef]
  refine wpAny_bind (wpAny_bind (wpAny_field he od z1 ?_))
  rw [if_pos (show (Value.ref T != Value.none) = true by simp)]
  refine wpAny_bind (wpAny_field hT dT z3 ?_)
  rw [if_neg (show ¬ ((Value.none == rawInt L) = true) by simp [rawInt])]
  refine wpAny_bind (wpAny_setField hT dT (Array.getElem?_eq_some_iff.mp z3).1 ?_)
  have ot : ∀ b,b ≠ T -> (s.heap.update T (Obj.mapFields (·.setIfInBounds 3 Value.none))).get? b = s.heap.get? b:=fun b n=>Heap.get?_update_other _ _ n.symm
  have nr : ∀ b o,s.heap.get? b = some o -> (∀ ws,o.data ≠ .fields ws) -> b ≠ T:=fun b o q n z=>by
    rw [z,hT] at q
    cases q
    exact n ts dT
  refine entry_dict fr (ff.of_keeps fun b o q n=>⟨o,(ot b (nr b o q n)).trans q,rfl⟩) ef ((ot e Te.symm).trans he) (fun b o q=>(ot b fun z=>by rw [z,nT] at q; cases q).trans (kb b o q)) ne od (Array.getElem?_eq_some_iff.mp z1).1 z0 fun h' lf d'=>?_
  obtain ⟨k1,⟨_,_,k2⟩,k3,k4⟩:=lf
  rw [hc] at k3
  exact h h' ⟨k1,ne,k2,k3⟩ (d'.imp fun o q=>⟨q.1,q.2.1.trans hdv,q.2.2.trans hfl⟩) fun b o q n=>k4 b o ((ot b (nr b o q n)).trans q) n
theorem note_entry_dict {head : Value} {nx : Bool} (fr : A.frames = some (en :: ou)) (ff : s.heap.FunFrames bs (en :: ou)) (ef : en.frame = some L) (oe : s.heap.get? e = some ob) (kb : bs.StaysIn s.heap) (ne : bs.get? e = none)
    (od : ob.data = .fields vs) (z1 : 1 < vs.size) (z0 : vs[0]? = some a0)
    (h : ∀ h',Heap.NotedW bs (en :: ou) e ob.cls a0 (rawInt L) s.heap h' -> (∃ o',h'.get? e = some o' /\ o'.dict = ob.dict /\ fld2 o' = fld2 ob) -> Q () { s with heap:=h' }) :
    wpAny M A (do
      let a <- frameOf en
      let pl <- entryPlaceOf L nx
      let b <- EntryCells.newEntry head a .none (rawInt L) .none pl
      setField (.ref e) 1 b) Q E s:=by
  have nf : e ∉ (en :: ou).filterMap (·.frame):=fun m=>by
    obtain ⟨_,o,q,n⟩:=ff.mem m
    rw [oe] at q
    cases q
    exact n vs od
  refine wpAny_bind (wpAny_frameOf_fun fr ff ef fun g gs=>?_)
  refine wpAny_bind (wpAny_entryPlaceOf fun pl hp=>?_)
  unfold EntryCells.newEntry newFields
  refine wpAny_bind (wpAny_newObj_type ?_ (hp.sizeOk5 _ _ _ _ _))
  have ge : g.get? e = some ob:=(gs.2.1 e nf).trans oe
  have gb : bs.StaysIn g:=fun b o q=>(gs.2.1 b fun m=>by
    rw [(ff.mem m).1] at q
    cases q).trans (kb b o q)
  obtain ⟨tb,etb⟩ : ∃ tb : List Value,[head,.ref L,.none,rawInt L,.none] ++ (if pl.isEmpty then List.replicate 6 Value.none else pl) = tb:=⟨_,rfl⟩
  have l5 : 3 < tb.length /\ tb[3]? = some (rawInt L):=by
    rw [<- etb]
    exact ⟨by simp,by simp⟩
  rw [etb]
  have ge2:=Heap.get?_push_of_some (h:=g) { cls:=.type "traceback",dict:=none,data:=.fields tb.toArray } ge
  have te : g.objs.size ≠ e:=Nat.ne_of_gt (Heap.lt_size ge)
  have d3:=Obj.data_mapFields od (·.setIfInBounds 1 (Value.ref g.objs.size))
  have ge3:=Heap.get?_update_self (Obj.mapFields (·.setIfInBounds 1 (Value.ref g.objs.size))) ge2 (Obj.isFreed_of_fields d3)
  have gt3:=(Heap.get?_update_other (g.push { cls:=.type "traceback",dict:=none,data:=.fields tb.toArray })
    (Obj.mapFields (·.setIfInBounds 1 (Value.ref g.objs.size))) te.symm).trans
    (Heap.get?_push_size g rfl)
  refine wpAny_setField ge2 od z1 (h _ ?_ ?_)
  · have kp : ∀ b o,b ≠ e -> g.get? b = some o -> ((g.push { cls:=.type "traceback",dict:=none,data:=.fields tb.toArray }).update e (Obj.mapFields (·.setIfInBounds 1 (Value.ref g.objs.size)))).get? b = some o:=fun b o n q=>by
      rw [Heap.get?_update_other _ _ n.symm]
      exact Heap.get?_push_of_some _ q
    have nr : ∀ b o,s.heap.get? b = some o -> (∀ ws,o.data ≠ .fields ws) -> b ≠ e:=fun b o q n z=>by
      rw [z,oe] at q
      cases q
      exact n vs od
    refine ⟨fun b o q=>kp b o (fun z=>by rw [z,ne] at q; cases q) (gb b o q),ff.of_keeps fun b o q n=>?_,?_,fun b o q n=>?_⟩
    · obtain ⟨sl,z⟩:=gs.2.2 b o q
      exact ⟨_,kp b _ (nr b o q n) z,rfl⟩
    · refine ⟨_,_,g.objs.size,_,_,ge3,⟨Obj.cls_mapFields _ _,?_⟩,d3,by simp [z1],gb.fresh,te,gt3,rfl,by simpa using l5.2⟩
      rw [Array.getElem?_setIfInBounds_ne (by decide)]
      exact z0
    · obtain ⟨sl,z⟩:=gs.2.2 b o q
      exact ⟨sl,kp b _ (nr b o q n) z⟩
  · refine ⟨_,ge3,?_,fld2_map od⟩
    cases ob with
    | mk c d dt sl=>cases dt <;> first | rfl | cases od
theorem look_dict {cls : Value} {dv : Option Addr} (fr : A.frames = some (en :: ou)) (ef : en.frame = some L) (fl : Heap.FlyingW bs (en :: ou) e cls a0 s.heap) (dd : ∃ o',s.heap.get? e = some o' /\ o'.dict = dv /\ fld2 o' = some .none)
    (h : ∀ h',Heap.HeldW bs (en :: ou) e cls a0 L h' -> (∃ o',h'.get? e = some o' /\ o'.dict = dv /\ fld2 o' = some .none) -> s.heap.UpToSlots h' -> Q () { s with heap:=h' }) : wpAny M A (noteFrame (.ref e) en) Q E s:=by
  obtain ⟨kb,ne,ff,oe,ws,T,oT,ts,he,⟨hc,z0⟩,od,z1,nT,Te,hT,dT,z3⟩:=fl
  obtain ⟨o',ho',hdv,hfl⟩:=dd
  rw [he] at ho'
  cases ho'
  unfold noteFrame
  simp only [ef]
  refine wpAny_bind (wpAny_field he od z1 ?_)
  rw [if_pos (show (Value.ref T != Value.none) = true by simp)]
  refine wpAny_bind (wpAny_field hT dT z3 ?_)
  rw [if_neg (show ¬ ((Value.none == rawInt L) = true) by simp [rawInt])]
  refine wpAny_bind (wpAny_setField hT dT (Array.getElem?_eq_some_iff.mp z3).1 ?_)
  have ot : ∀ b,b ≠ T -> (s.heap.update T (Obj.mapFields (·.setIfInBounds 3 Value.none))).get? b = s.heap.get? b:=fun b n=>Heap.get?_update_other _ _ n.symm
  have nr : ∀ b o,s.heap.get? b = some o -> (∀ ws,o.data ≠ .fields ws) -> b ≠ T:=fun b o q n z=>by
    rw [z,hT] at q
    cases q
    exact n ts dT
  refine note_entry_dict fr (ff.of_keeps fun b o q n=>⟨o,(ot b (nr b o q n)).trans q,rfl⟩) ef ((ot e Te.symm).trans he) (fun b o q=>(ot b fun z=>by rw [z,nT] at q; cases q).trans (kb b o q)) ne od (Array.getElem?_eq_some_iff.mp z1).1 z0 fun h' nt d'=>?_
  obtain ⟨k1,k2,k3,k4⟩:=nt
  rw [hc] at k3
  exact h h' ⟨k1,ne,k2,k3⟩ (d'.imp fun o q=>⟨q.1,q.2.1.trans hdv,q.2.2.trans hfl⟩) fun b o q n=>k4 b o ((ot b (nr b o q n)).trans q) n
theorem flight_dict {l : List Env} {cls fv : Value} {dv : Option Addr} (kb : bs.StaysIn s.heap) (ne : bs.get? e = none) (ff : s.heap.FunFrames bs l) (tr : s.heap.TracedAtW bs e cls a0 fv) (dd : ∃ o',s.heap.get? e = some o' /\ o'.dict = dv /\ fld2 o' = some .none)
    (h : ∀ h',Heap.FlyingW bs l e cls a0 h' -> (∃ o',h'.get? e = some o' /\ o'.dict = dv /\ fld2 o' = some .none) -> s.heap.UpToSlots h' -> Q () { s with heap:=h' }) : wpAny M A (setFlight (.ref e) none) Q E s:=by
  obtain ⟨oe,ws,T,oT,ts,he,hc,od,z1,nT,Te,hT,dT,z3⟩:=tr
  obtain ⟨o',ho',hdv,hfl⟩:=dd
  have s3:=(Array.getElem?_eq_some_iff.mp z3).1
  have ot : ∀ b,b ≠ T -> (s.heap.update T (Obj.mapFields (·.setIfInBounds 3 ((none : Option Addr).elim Value.none fun f=>rawInt f)))).get? b = s.heap.get? b:=fun b n=>Heap.get?_update_other _ _ n.symm
  have nr : ∀ b o,s.heap.get? b = some o -> (∀ ws,o.data ≠ .fields ws) -> b ≠ T:=fun b o q n z=>by
    rw [z,hT] at q
    cases q
    exact n ts dT
  unfold setFlight
  refine wpAny_bind (wpAny_field he od z1 ?_)
  rw [if_pos (show (Value.ref T != Value.none) = true by simp)]
  refine wpAny_setField hT dT s3 (h _ ⟨fun b o q=>(ot b fun z=>by rw [z,nT] at q; cases q).trans (kb b o q),ne,ff.of_keeps fun b o q n=>⟨o,(ot b (nr b o q n)).trans q,rfl⟩,?_⟩ ⟨o',(ot e Te.symm).trans ho',hdv,hfl⟩ fun b o q n=>⟨o.slots,(ot b (nr b o q n)).trans q⟩)
  exact ⟨oe,ws,T,_,_,(ot e Te.symm).trans he,hc,od,z1,nT,Te,Heap.get?_update_self _ hT (Obj.isFreed_of_fields (Obj.data_mapFields dT _)),Obj.data_mapFields dT _,by simp [s3]⟩
end
end PySem
namespace L2
open PySem PySem.Spec PyProof.Rows
def CXD (P : Program) (w : World) : CXT:=fun outer H s E e s'=>∃ a cls a0 dv H' B,e = Value.ref a /\ Fly P w outer H H' s s' a cls a0 B /\ (∃ o',s'.heap.get? a = some o' /\ o'.dict = dv /\ fld2 o' = some .none) /\ E cls dv H'
theorem pass00D {P : Program} {w : World} {X : Cx} : Passes (CXD P w) X E0:=fun _ _ _ _ _ _ _ h=>by
  obtain ⟨_,_,_,_,_,_,_,_,_,z⟩:=h
  exact z.elim
def delH (H : Hp) (a : Addr) : Hp:=fun b=>if b = a then none else H b
theorem delH_ne {H : Hp} {a b : Addr} (h : b ≠ a) : delH H a b = H b:=by unfold delH; rw [if_neg h]
theorem delH_self {H : Hp} {a : Addr} : delH H a a = none:=by unfold delH; rw [if_pos rfl]
theorem Inv.drop {X : Cx} {pins : List (Addr × Obj)} {σ : St} {H : Hp} {s : Shared} {a : Addr} {φ : Heap -> Prop} (I : Inv X pins σ H s) (h : H a = some (.ext φ)) : Inv X pins σ (delH H a) s:=by
  have nn : ∀ b,H b = none -> delH H a b = none:=fun b e=>by
    by_cases z : b = a
    · subst z; exact delH_self
    · rw [delH_ne z]; exact e
  have ss : ∀ b o,H b = some o -> o ≠ .ext φ -> delH H a b = some o:=fun b o e n=>by
    rw [delH_ne fun z=>?_]
    · exact e
    · subst z; rw [h] at e; exact n (Option.some.inj e).symm
  refine ⟨I.ok,I.os,I.bare,?_,I.loc,I.cell,nn _ I.free,fun x c e=>nn _ (I.freeC x c e),fun p hp=>?_,fun b u q=>?_,I.len⟩
  · have u:=I.base
    exact ⟨u.keep,u.slot,fun b o e n hx=>nn _ (u.free b o e n hx),u.there,fun b xs e=>ss _ _ (u.tups b xs e) (by simp),fun b o v e=>ss _ _ (u.frzs b o v e) (by simp),fun b ps e=>by
      obtain ⟨more,q⟩:=u.tbls b ps e
      exact ⟨more,ss _ _ q (by simp)⟩⟩
  · obtain ⟨e,n,ne,nf,d⟩:=I.pin p hp
    exact ⟨e,nn _ n,ne,nf,d⟩
  · by_cases z : b = a
    · subst z; rw [delH_self] at q; cases q
    · rw [delH_ne z] at q
      exact (I.hok b u q).stay (fun _ _ _ r=>r) (fun c r=>ss _ _ r (by simp)) fun c ts r=>ss _ _ r (by simp)
section
variable {P : Program} {w : World} {K : PySem.W.Frag} {mg : Str -> Option Value} {base : Heap} {N : List Str} {qual : Str} {scope : Scope} {f : Addr} {cd : Value} {A : Around} {outer : List Env} {s : Shared} {H : Hp} {E : XK}
abbrev cxD (P : Program) (w : World) (K : PySem.W.Frag) (mg : Str -> Option Value) (base : Heap) (N : List Str) (qual : Str) (scope : Scope) (f : Addr) (cd : Value) (A : Around) (outer : List Env) (s : Shared) (H : Hp) (E : XK) : Cx:=cxOf (CXD P w) P w K mg base N qual scope f cd A outer s H E
theorem stk_neD {pins : List (Addr × Obj)} {σ : St} {H1 : Hp} {s1 : Shared} (I : Inv (cxD P w K mg base N qual scope f cd A outer s H E) pins σ H1 s1) {b : Addr} {o : Obj} (e : s.heap.get? b = some o) (n : b ∉ frs outer) : b ∉ frs (cxD P w K mg base N qual scope f cd A outer s H E).stack:=fun hb=>by
  rcases List.mem_cons.mp (I.stkSub b hb) with z | z
  · have h1 : b < s.heap.objs.size:=Heap.lt_size e
    have h2 : s.heap.objs.size <= (cxD P w K mg base N qual scope f cd A outer s H E).env.locals:=I.ok.above
    rw [<- z] at h2
    exact absurd (Nat.lt_of_lt_of_le h1 h2) (Nat.lt_irrefl _)
  · exact n z
theorem frs_subD {b : Addr} (h : b ∈ frs outer) : b ∈ frs (cxD P w K mg base N qual scope f cd A outer s H E).stack:=by
  show b ∈ frs (_ :: outer)
  unfold frs at h ⊢
  rw [List.filterMap_cons]
  split
  · exact h
  · exact List.mem_cons_of_mem _ h
theorem raiseD {pins : List (Addr × Obj)} {σ : St} {H1 : Hp} {s1 : Shared} {hx : Heap} {e C t : Addr} {dv : Option Addr} (I : Inv (cxD P w K mg base N qual scope f cd A outer s H E) pins σ H1 s1)
    (hk : ∀ b o,b ≠ e -> s1.heap.get? b = some o -> hx.get? b = some o) (he1 : ∀ o,s1.heap.get? e = some o -> ∃ vs,o.data = .fields vs) (new : s.heap.get? e = none) (hH : H1 e = none)
    (oe : hx.get? e = some { cls:=.ref C,dict:=dv,data:=.fields #[.ref t,.none,.none,.none,.bool false,.none] }) (hE : E (.ref C) dv H1) :
    (cxD P w K mg base N qual scope f cd A outer s H E).xe (.ref e) { s1 with heap:=hx }:=by
  have hin : ∀ en ∈ (cxD P w K mg base N qual scope f cd A outer s H E).stack,∀ b,en.frame = some b -> b ∈ e :: frs (cxD P w K mg base N qual scope f cd A outer s H E).stack:=fun en he b hb=>List.mem_cons_of_mem _ (List.mem_filterMap.mpr ⟨en,he,hb⟩)
  have ff:=PySem.W.funFrames_hide I.stack hin
  have nee : ∀ b o,s1.heap.get? b = some o -> (∀ vs,o.data ≠ .fields vs) -> b ≠ e:=fun b o q n z=>by
    subst z
    obtain ⟨vs,d⟩:=he1 o q
    exact n vs d
  have hid : (PySem.W.hideAll s1.heap (e :: frs (cxD P w K mg base N qual scope f cd A outer s H E).stack)).get? e = none:=PySem.W.hideAll_none _ List.mem_cons_self
  have kb : (PySem.W.hideAll s1.heap (e :: frs (cxD P w K mg base N qual scope f cd A outer s H E).stack)).StaysIn hx:=fun b o q=>hk b o (fun z=>by rw [z,hid] at q; cases q) (PySem.W.of_hideAll _ q)
  show wpAny (model P w) _ (leaving _ (.ref e)) _ _ _
  refine leave1_dict (bs:=PySem.W.hideAll s1.heap (e :: frs (cxD P w K mg base N qual scope f cd A outer s H E).stack)) (a0:=.ref t) (s:={ s1 with heap:=hx }) I.ok.frames (ff.of_keeps fun b o q n=>⟨o,hk b o (nee b o q n) q,rfl⟩) rfl oe kb hid rfl rfl rfl fun h2 lf dd=>?_
  obtain ⟨k1,⟨_,_,k2⟩,k3,k4⟩:=lf
  have noex : ∀ b : Addr,b ∉ (cxD P w K mg base N qual scope f cd A outer s H E).ex:=fun b z=>absurd (show b ∈ ([] : List Addr) from z) (by simp)
  have nse : ∀ b o,s.heap.get? b = some o -> b ≠ e:=fun b o q z=>by rw [z,new] at q; cases q
  have out : ∀ b o,s.heap.get? b = some o -> b ∉ frs outer -> b ∉ e :: frs (cxD P w K mg base N qual scope f cd A outer s H E).stack:=fun b o q n m=>by
    rcases List.mem_cons.mp m with z | z
    · exact nse b o q z
    · exact stk_neD I q n z
  refine ⟨e,.ref C,.ref t,dv,H1,_,rfl,⟨I.os,I.bare,⟨k1,hid,k2,k3⟩,fun b u q=>?_,fun b o q n hb=>?_,fun b o q hb=>?_,fun b o q hb=>?_,fun b o q n=>I.base.free b o q n (noex b),I.base.tups,I.base.frzs,I.base.tbls⟩,dd,hE⟩
  · have ne : ∀ c v,H1 c = some v -> c ∉ e :: frs (cxD P w K mg base N qual scope f cd A outer s H E).stack:=fun c v z m=>by
      rcases List.mem_cons.mp m with m | m
      · rw [m,hH] at z; cases z
      · rw [I.stkFree c m] at z; cases z
    refine (I.hok b u q).stay (fun c v hc r=>PySem.W.hideAll_get _ r ?_) (fun _ r=>r) fun _ _ r=>r
    rcases hc with rfl | hc
    · exact ne c u q
    · exact ne c _ hc
  · exact PySem.W.hideAll_get _ (I.base.keep b o q n hb (noex b)) (out b o q hb)
  · obtain ⟨o',z⟩:=I.base.there b o q (noex b)
    exact ⟨o',PySem.W.hideAll_get _ z (out b o q hb)⟩
  · obtain ⟨sl,z⟩:=I.base.slot b o q (I.ok.frf b hb) hb (noex b)
    obtain ⟨_,o',ho',hnf⟩:=I.ok.funs.mem hb
    have ho2 : s.heap.get? b = some o':=ho'
    rw [q] at ho2
    cases ho2
    obtain ⟨sl',z'⟩:=k4 b _ (hk b _ (nse b o q) z) hnf
    exact ⟨sl',z'⟩
theorem pass_onD : Passes (CXD P w) (cxD P w K mg base N qual scope f cd A outer s H E) E:=by
  intro pins σ H1 s1 e s' I h
  obtain ⟨a,cls,a0,dv,H',B,rfl,F,dd,hE⟩:=h
  show wpAny (model P w) _ (leaving _ (.ref a)) _ _ _
  have noex : ∀ b : Addr,b ∉ (cxD P w K mg base N qual scope f cd A outer s H E).ex:=fun b z=>absurd (show b ∈ ([] : List Addr) from z) (by simp)
  refine leave2_dict I.ok.frames rfl F.fl dd fun h2 x1 d2 x2=>?_
  refine ⟨a,cls,a0,dv,H',B,rfl,⟨F.os.trans I.os,F.bare,x1,F.hokB,fun b o q n hb=>?_,fun b o q hb=>?_,fun b o q hb=>?_,fun b o q n=>?_,fun b xs q=>F.tups b xs (I.base.tups b xs q),fun b o u q=>F.frzs b o u (I.base.frzs b o u q),fun b ps q=>?_⟩,d2,hE⟩
  · exact F.keep b o (I.base.keep b o q n hb (noex b)) (I.base.free b o q n (noex b)) (stk_neD I q hb)
  · obtain ⟨o',z⟩:=I.base.there b o q (noex b)
    exact F.there b o' z (stk_neD I q hb)
  · obtain ⟨sl,z⟩:=I.base.slot b o q (I.ok.frf b hb) hb (noex b)
    obtain ⟨_,o',ho',hnf⟩:=I.ok.funs.mem hb
    have ho2 : s.heap.get? b = some o':=ho'
    rw [q] at ho2
    cases ho2
    obtain ⟨sl',z'⟩:=F.slot b _ z (frs_subD hb)
    obtain ⟨sl2,z2⟩:=x2 b _ z' hnf
    exact ⟨sl2,z2⟩
  · obtain ⟨o',z⟩:=I.base.there b o q (noex b)
    exact F.free b o' z (I.base.free b o q n (noex b))
  · obtain ⟨m1,e1⟩:=I.base.tbls b ps q
    obtain ⟨m2,e2⟩:=F.tbls b _ e1
    exact ⟨m1 ++ m2,by rw [e2,Array.append_assoc]⟩
end
section
variable {X : Cx}
def RaiseD (X : Cx) (E : XK) : Prop:=∀ (pins : List (Addr × Obj)) (σ : St) (H0 H1 : Hp) (s0 s1 : Shared) (hx : Heap) (e C t : Addr) (dv : Option Addr),Inv X pins σ H0 s0 -> s0.heap.get? e = none -> Inv X pins σ H1 s1 -> (∀ b o,b ≠ e -> s1.heap.get? b = some o -> hx.get? b = some o) ->
  (∀ o,s1.heap.get? e = some o -> ∃ vs,o.data = .fields vs) -> H1 e = none -> hx.get? e = some { cls:=.ref C,dict:=dv,data:=.fields #[.ref t,.none,.none,.none,.bool false,.none] } -> E (.ref C) dv H1 -> X.xe (.ref e) { s1 with heap:=hx }
theorem ps_raiseD {x : Str} {C : Addr} {e : Expr} {t : TA} {E : XK} {np cpos pos : Pos} (hcalm : X.calm = true) (RO : RaiseD X E) (hg : Gl X x) (hm : X.mg x = some (.ref C)) (q : PySem.W.excIn X.K C bmVE "ValueError.__new__" = true) (ha : PA X [e] t)
    (hdb : (x == ("__debug__" : Str)) = false:=by decide) (he : starEach [e] X.env = [(false,eval e X.env)]:=by rfl) : PS X (.Raise (some (.Call (.Name x np) [e] [] cpos)) none pos) (tRaise C E t):=by
  intro pins s σ H D I h
  obtain ⟨tl,N,nm,qn,bs,hdct,sn,sub,ab,col,dd,k0,k1,k2,k3,k5,mN,hC,hN,hni,T⟩:=(own_obj I.mod.kin hm q).obj
  refine wpAny_Raise_call_subU (C:=C) (nm:=nm) (q:=qn) (N:=N) (bs:=bs) (bm:=tl) (hdct:=hdct) (sn:=sn) (sub:=sub) (ab:=ab) (col:=col) (dd:=dd) (k0:=k0) (k1:=k1) (k2:=k2) (k3:=k3) (k5:=k5)
    PySem.F.excBase_ValueError (by decide +kernel) PySem.F.excBase_ValueError (mN:=mN) (T.hasType (by decide +kernel)) (I.ok.hd hcalm) (by rw [he]; rfl) hni (ld_glob I hg hm ⟨rfl,?_⟩ hdb)
  have ha':=ha cpos pins s σ H _ I h
  rw [he] at ha' ⊢
  refine Calls.evalArgs_plain (wpAny_mono ha' (fun us s1 ⟨vs,H1,I1,r,z,hE⟩=>?_) fun _ _ y=>y)
  refine ⟨rfl,by rw [<- r.length]; exact z,I1.bk _ _ hC,hN.keeps I1.bk,T.keeps I1.bk,fun h' e' hx=>?_⟩
  obtain ⟨t,oe,_,_⟩:=hx.there
  exact RO pins σ H1 H1 s1 s1 h' e' C t none I1 hx.new I1 (fun b o _ k=>hx.keeps b o k) (fun o k=>by rw [hx.new] at k; cases k) (I1.hok.none_of hx.new) oe hE
def spInit (C : Addr) (name : Str) : Sp:=fun vs H Q _=>∃ (x : Addr) (v : V),vs = [.ref x,v] /\ H x = some (.ext (XO x C none)) /\ ∀ dx,H dx = none -> dx ≠ x -> Q .non (upd (upd H x (.ext (XO x C (some dx)))) dx (.xd [(name,v)]))
def tRaiseI (C : Addr) (name : Str) (E : XK) (t : TA) : TS:=fun _ σ H=>t σ H fun vs H1=>∃ v,vs = [v] /\ ∀ dx,H1 dx = none -> E (.ref C) (some dx) (upd H1 dx (.xd [(name,v)]))
theorem ps_raiseI {x name : Str} {C W f : Addr} {fd : FuncData} {k : Nat} {ps : List Str} {e : Expr} {t : TA} {E : XK} {np cpos pos : Pos} (hcalm : X.calm = true) (RO : RaiseD X E) (M : XMade X.K C W f) (G : FnOk X.prog X.w X.K X.mg X.base CX0 k f fd ps (spInit C name)) (hr : Room (k + 1) X.A)
    (hb : Binds X.K fd ps []) (hg : Gl X x) (hm : X.mg x = some (.ref C)) (ha : PA X [e] t)
    (hdb : (x == ("__debug__" : Str)) = false:=by decide) (he : starEach [e] X.env = [(false,eval e X.env)]:=by rfl) : PS X (.Raise (some (.Call (.Name x np) [e] [] cpos)) none pos) (tRaiseI C name E t):=by
  intro pins s σ H D I h
  obtain ⟨nm,q,N,bs,sn,sub,ab,col,dd,k0,k1,k2,k3,k5,lk⟩:=M.lk
  obtain ⟨of,lf,cf⟩:=M.ff
  have oC : ∀ {H' : Hp} {s' : Shared},Inv X pins σ H' s' -> s'.heap.get? C = some (excClassObj nm q C N bs (.ref W :: bmVE) true sn sub ab col dd k0 k1 k2 k3 k5 "ValueError.__new__"):=fun J=>J.kIn _ _ lk
  rw [arm_exec_Raise]
  refine wpAny_bind (wpAny_standAt (raiseStmt_own (kC:=C) (cn:=nm) (cq:=q) (kN:=N) (bas:=bs) (tl:=.ref W :: bmVE) (hd:=true) (sns:=sn) (subs:=sub) (abb:=ab) (coll:=col) (dic:=dd) (j0:=k0) (j1:=k1) (j2:=k2) (j3:=k3) (j5:=k5) (newI := "ValueError.__new__") (by simp) (I.ok.hd hcalm) ?_))
  refine wpAny_bind (wpAny_mono (wpAny_Call_Name_kw (ld_glob I hg hm (PySem.W.callWith_K (h₀:=X.base) (Q:=fun v s1=>∃ e t dv,v = .ref e /\ s1.heap.get? C = some (excClassObj nm q C N bs (.ref W :: bmVE) true sn sub ab col dd k0 k1 k2 k3 k5 "ValueError.__new__") /\ s1.heap.get? e = some { cls:=.ref C,dict:=dv,data:=.fields #[.ref t,.none,.none,.none,.bool false,.none] } /\ X.xe (.ref e) s1) I.ok.mod.kin M.kp (thn (ha cpos pins s σ H _ I h) fun us s1 ⟨vs,H1,I1,r,v,ev,hE⟩=>⟨I1.kIn,?_⟩) (by rw [he]; rfl) rfl) hdb)) (fun v s3 z=>wpAny_bind (wpAny_standAt (wpAny_pure z))) fun _ _ z=>z)
  subst ev
  obtain ⟨u,rfl,ru⟩:=r.one
  obtain ⟨hp,gs,dr,tk,sy⟩:=s1
  refine call_initU (rest:=[u]) PySem.F.excBase_ValueError (by decide +kernel) PySem.F.excBase_ValueError (M.tail I1.kIn) (oC I1) I1.kIn M.fi (I1.kIn _ _ lf) cf (fun h' kp oe=>?_) (show 1 <= sizeLine by decide)
  obtain ⟨a,ea⟩ : ∃ a,hp.objs.size + 1 = a:=⟨_,rfl⟩
  rw [ea] at oe ⊢
  have la : hp.objs.size <= a:=by rw [<- ea]; exact Nat.le_succ _
  have na : H1 a = none:=I1.hok.fresh la
  have ga : hp.get? a = none:=Heap.get?_none_of_le la
  have I2 : Inv X pins σ (upd H1 a (.ext (XO a C none))) ⟨h',gs,dr,tk,sy⟩:=I1.laid (t':=tk) (h':=h') kp la (xo_ok ⟨_,oe⟩)
  have sp : spInit C name [.ref a,v] (upd H1 a (.ext (XO a C none))) (fun v' H'=>v' = .non /\ ∃ dx,H1 dx = none /\ dx ≠ a /\ H' = upd (upd (upd H1 a (.ext (XO a C none))) a (.ext (XO a C (some dx)))) dx (.xd [(name,v)])) E0:=
    ⟨a,v,rfl,upd_same,fun dx hn hne=>⟨rfl,dx,by rwa [upd_ne hne] at hn,hne,rfl⟩⟩
  have r2 : Vals [V.ref a,v] [Value.ref a,u]:=.cons rfl (.cons ru .nil)
  have hl : ([Value.ref a,u] ++ []).length = ps.length:=by
    have:=G.len _ _ _ _ sp
    simpa using this
  refine wpAny_call (codeAny_mono (G.run _ X.stack _ _ ⟨[Value.ref a,u],[]⟩ [Value.ref a,u] _ _ E0 (hr.make C [u] []) (I2.env0.make C [u] []) (hb _ [Value.ref a,u] I2.kIn hl) r2 sp) fun r s' z=>?_)
  cases r with
  | error e=>exact False.elim z
  | ok fl=>
    cases fl with
    | ret u'=>
      obtain ⟨v',H',I3,rv,ev,dx,hn,hne,eH⟩:=I2.after z
      subst ev
      obtain rfl : u' = Value.none:=rv
      have hHa : H' a = some (.ext (XO a C (some dx))):=by rw [eH,upd_ne (Ne.symm hne),upd_same]
      obtain ⟨t2,o2⟩:=(I3.hok a _ hHa).1
      have eD : delH H' a = upd H1 dx (.xd [(name,v)]):=by
        funext b
        by_cases zb : b = a
        · rw [zb,delH_self,upd_ne (Ne.symm hne),na]
        · rw [delH_ne zb,eH]
          by_cases zd : b = dx
          · rw [zd,upd_same,upd_same]
          · rw [upd_ne zd,upd_ne zd,upd_ne zb,upd_ne zb]
      refine ⟨rfl,a,t2,some dx,rfl,oC I3,o2,?_⟩
      have:=RO pins σ H1 (delH H' a) _ s' s'.heap a C t2 (some dx) I1 ga (I3.drop hHa) (fun b o _ k=>k) (fun o k=>by rw [o2] at k; cases k; exact ⟨_,rfl⟩) delH_self o2 (by rw [eD]; exact hE dx hn)
      exact this
    | next=>exact False.elim z
    | brk=>exact False.elim z
    | cont=>exact False.elim z
end
theorem raiseDok {P : Program} {w : World} {K : PySem.W.Frag} {mg : Str -> Option Value} {base : Heap} {N : List Str} {qual : Str} {scope : Scope} {f : Addr} {cd : Value} {A : Around} {outer : List Env} {s : Shared} {H : Hp} {E : XK} :
    RaiseD (cxD P w K mg base N qual scope f cd A outer s H E) E:=fun pins σ H0 H1 s0 s1 hx e C t dv I0 g0 I hk he1 hH oe hE=>by
  refine raiseD I hk he1 ?_ hH oe hE
  cases q : s.heap.get? e with
  | none=>rfl
  | some o=>
    obtain ⟨o',z⟩:=I0.base.there e o q (fun z=>absurd (show e ∈ ([] : List Addr) from z) (by simp))
    rw [g0] at z; cases z
theorem Fun.okD {P : Program} {w : World} {K : PySem.W.Frag} {mg : Str -> Option Value} {base : Heap} {x qual : Str} {st : Stmt} {f : Addr} {fd : FuncData} {N ps : List Str} {k : Nat} {sp : Sp} (F : Fun K x qual st f fd) (S : FnScope N ps (defScope st)) (len : ∀ vs H Q E,sp vs H Q E -> vs.length = ps.length)
    (hbody : ∀ (cdv : Value) (A : Around) (outer : List Env) (s : Shared) (H : Hp) (vs : List V) (Q : VK) (E : XK),Room k (A.deeper (envOfC qual (defScope st) s.heap.objs.size f cdv)) -> sp vs H Q E ->
      ∃ t,PSs (cxD P w K mg base N qual (defScope st) f cdv A outer s H E) (defBody st) t /\ t { nx:=fun _ H'=>Q .non H',rt:=Q } (start N vs) H) : FnOk P w K mg base (CXD P w) (k + 1) f fd ps sp:=by
  obtain ⟨oc,od,kV,doc,pm,an,cdv,ct,osl,rfl,lk,hcd⟩:=F.ex
  exact fn_of lk hcd S len fun A outer s H vs Q E hr hsp=>hbody cdv A outer s H vs Q E hr hsp
end L2
namespace L2
open PySem PySem.Spec PyProof.Rows PySem.W PySem.Builtin.Getset_descriptor
def IsXD (x C : Addr) (dv : Option Addr) (h : Heap) : Prop:=∃ ox vs,h.get? x = some ox /\ ox.cls = .ref C /\ ox.dict = dv /\ ox.data = .fields vs /\ vs[2]? = some .none
theorem IsXD.x {x C : Addr} {dv : Option Addr} {h : Heap} (I : IsXD x C dv h) : IsX x C h:=let ⟨ox,_,a,b,_⟩:=I; ⟨ox,a,b⟩
theorem extD_ok {P : Program} {w : World} {H : Hp} {h : Heap} {a C : Addr} {dv : Option Addr} (I : IsXD a C dv h) : ObjOk P w H h a (.ext (IsXD a C dv)):=
  ⟨I,(let ⟨o,_,e,_⟩:=I; ⟨o,e⟩),fun h1 h2 ⟨o,vs,e,c⟩ k=>⟨o,vs,k o e,c⟩⟩
section
variable {prog : Program} {w : World} {A : Around} {E : Value -> Shared -> Prop} {h : Heap} {g : Array GenState} {d : Drawn} {t : Nat} {os : OsState} {K : Frag} {x C dx : Addr} {name : Str} {v : Value} {m : Str -> Option Value}
end
section
variable {X : Cx}
end
section
variable {X : Cx} {pins : List (Addr × Obj)} {σ : St} {H H' : Hp} {s s' : Shared} {a C : Addr}
theorem handleD {cn n : Str} {i : Nat} {CC : Addr} {a0 : Value} {B : Heap} {dv : Option Addr} {np hpos : Pos} {b₀ : Stmt} {suite : List Stmt} {ts : TS} {D : Ends} (hN : X.N.Nodup) (hi : X.N[i]? = some n) (hk : X.env.scope.names.lookup n = some .local) (hex : ∀ b,b ∉ X.ex)
    (hst : X.stack = X.env :: X.outer) (hfr : X.env.frame = some X.env.locals) (hg : Gl X cn) (hm : X.mg cn = some (.ref CC)) (hx : exmOne X.K (.ref C) (.ref CC) = some true) (I : Inv X pins σ H s) (F : Fly X.prog X.w X.stack H H' s s' a (.ref C) a0 B) (dd : ∃ o',s'.heap.get? a = some o' /\ o'.dict = dv /\ fld2 o' = some .none)
    (hsuite : PSs (suiteCx X a) (b₀ :: suite) ts) (q : ts { nx:=fun σ2 H2=>D.nx (σ2.set i none) H2,rt:=fun _ _=>False } (σ.set i (some (.ref a))) (upd H' a (.ext (IsXD a C dv)))) (hdb : (cn == ("__debug__" : Str)) = false:=by decide) :
    wpAny (model X.prog X.w) X.A (noteFrame (.ref a) X.env) (fun _ s₂=>wpAny (model X.prog X.w) X.A (setFlight (.ref a) none) (fun _ s₃=>wpAny (model X.prog X.w) X.A (handleBy (.ref a) X.env [.ExceptHandler (some (.Name cn np)) (some n) (b₀ :: suite) hpos]) (SP X pins D) X.xe s₃) X.xe s₂) X.xe s':=by
  have hcls : (X.env.scope.kind == .class || (X.env.scope.kind == .module && X.env.locals != X.env.globals)) = false:=by rw [I.ok.kind]; rfl
  have fl0:=F.fl
  rw [hst] at fl0
  refine look_dict (by rw [<- hst]; exact I.ok.frames) hfr fl0 dd fun h4 held4 d4 sm4=>?_
  refine flight_dict (s:={ s' with heap:=h4 }) held4.1 held4.2.1 held4.2.2.1 held4.2.2.2 d4 fun h5 fl5 d5 sm5=>?_
  obtain ⟨n1,n2⟩:=F.new
  have I5 : Inv X pins σ H' { s' with heap:=h5 }:=F.inv I fl5.1 (sm4.trans sm5)
  obtain ⟨ob,hob,hobc⟩:=fl5.there
  have LT : Looks (model X.prog X.w) h5 (typeOf (.ref a)) (.ref C):=IsX.type ⟨ob,hob,hobc⟩
  refine wpAny_handleBy_cons (codeAny_handlers_test (ld_glob (X:=suiteCx X a) (I5.suite a) hg hm ?_ hdb)) (by intro z; cases z)
  refine (exm_one (h:=h5) I5.kIn LT hx).at ?_
  refine codeAny_handlers_suite_as ?_
  refine flight_dict (s:={ s' with heap:=h5 }) fl5.1 fl5.2.1 fl5.2.2.1 fl5.2.2.2.at d5 fun h6 fl6 d6 sm6=>?_
  have I6 : Inv X pins σ H' { s' with heap:=h6 }:=F.inv I fl6.1 ((sm4.trans sm5).trans sm6)
  obtain ⟨ob6,vs6,hob6,hobc6,hod6,_⟩:=fl6.first
  obtain ⟨o',ho',hd',hf'⟩:=d6
  rw [hob6] at ho'
  cases ho'
  have I7 : Inv X pins σ (upd H' a (.ext (IsXD a C dv))) { s' with heap:=h6 }:=Inv.track I hex n1 I6 n2 (extD_ok ⟨ob6,vs6,hob6,hobc6,hd',hod6,by unfold fld2 at hf'; rw [hod6] at hf'; exact hf'⟩)
  refine store_ok (X:=suiteCx X a) (v:=.ref a) (I7.suite a) hN hi (.inl hk) rfl (fun s8 I8=>?_) (.inr hk)
  refine wpAny_mono (hsuite pins s8 _ _ _ I8 q) (fun f s9 h9=>?_) fun _ _ z=>z.elim
  cases f with
  | next=>
    obtain ⟨σ9,H9,I9,q9⟩:=h9
    have I9':=I9.unsuite I.ok
    obtain ⟨m,hn,hl⟩:=id I9'.loc
    exact wpAny_nameGoes_keeps hk hn hcls fun h10 v hn' hs'=>⟨_,_,I9'.forget hN hi hl hn' hs',q9⟩
  | brk=>obtain ⟨_,_,_,z⟩:=h9; exact z.elim
  | cont=>obtain ⟨_,_,_,z⟩:=h9; exact z.elim
  | ret u=>obtain ⟨_,_,_,_,_,z⟩:=h9; exact z.elim
end
end L2
namespace L2
open PySem PySem.Spec PyProof.Rows
section
variable {X : Cx}
theorem call_xG {CX : CXT} {f : Addr} {fd : FuncData} {k : Nat} {ps : List Str} {sp : Sp} {g : Str} {p cpos : Pos} {e : Expr} {es : List Expr} {ta : TA} {pins : List (Addr × Obj)} {σ : St} {H : Hp} {s : Shared} {E1 : Value -> Shared -> Prop} {Qv : VK} {Ex : XK}
    (F : FnOk X.prog X.w X.K X.mg X.base CX k f fd ps sp) (hr : Room k X.A) (hm : X.mg g = some (.ref f)) (hkp : PySem.W.keepIn X.K (.ref f) = true) (hb : Binds X.K fd ps []) (ha : PA X.nox (e :: es) ta) (hg : Gl X g)
    (I : Inv X pins σ H s) (h : ta σ H fun vs H1=>sp vs H1 Qv Ex) (hE : ∀ H1 s1 v s',Inv X pins σ H1 s1 -> CX X.stack H1 s1 Ex v s' -> E1 v s')
    (hdb : (g == ("__debug__" : Str)) = false) (he : starEach (e :: es) X.env = (false,eval e X.env) :: starEach es X.env) (hpl : (backTo cpos (starEach es X.env)).any (·.1) = false) :
    wpAny (model X.prog X.w) X.A (eval (.Call (.Name g p) (e :: es) [] cpos) X.env) (EP X pins σ Qv) E1 s:=by
  refine wpAny_Call_Name_kw (ld_glob I hg hm ?_ hdb)
  refine PySem.W.callWith_K (h₀:=X.base) I.ok.mod.kin hkp (wpAny_mono (ha cpos pins s σ H _ (I.wish _) h) (fun us s1 ⟨vs,H1,I1,r,q⟩=>⟨I1.unwish.kIn,?_⟩) fun _ _ z=>z.elim) he hpl
  have I1':=I1.unwish
  have hl : us.length = ps.length:=by rw [<- r.length]; exact F.len _ _ _ _ q
  have hb':=hb s1 us I1'.kIn (by rw [List.append_nil]; exact hl)
  rw [List.append_nil] at hb'
  refine wpAny_call (codeAny_mono (F.run X.A X.stack s1 H1 ⟨us,[]⟩ us vs Qv Ex hr I1'.env0 hb' r q) fun rr s' hq=>?_)
  cases rr with
  | error v=>exact hE H1 s1 v s' I1' hq
  | ok fl=>
    cases fl with
    | ret u=>exact I1'.after hq
    | next=>exact False.elim hq
    | brk=>exact False.elim hq
    | cont=>exact False.elim hq
end
section
variable {X : Cx}
theorem call_isxD (K : PySem.W.Frag) (hK : X.K = K:=by rfl) : CallR X (.builtin "isinstance") (fun xs H Q=>∃ (a C : Addr) (dv : Option Addr) (c : V) (cv : Value) (b : Bool),xs = [.ref a,c] /\ clsV c = some cv /\ H a = some (.ext (IsXD a C dv)) /\ XCls K C /\ PySem.W.kitOne K (.ref C) cv = some b /\ Q (.bl b) H):=by
  subst hK
  intro pins s σ H xs us Q I r h
  obtain ⟨a,C,dv,c,cv,b,rfl,hc,ha,F,e,q⟩:=h
  obtain ⟨u,w',rfl,r1,r2⟩:=vals2 r
  cases r1
  rw [clsV_rel hc r2]
  exact PySem.W.kia_one (kitx_exc F) I.kIn (I.hok a _ ha).1.x e (fun z=>nomatch z) fun tk=>⟨.bl b,H,I.tok tk,rfl,q⟩
end
end L2
namespace L2
open PySem PySem.Spec PyProof.Rows
section
variable {X : Cx}
end
end L2
namespace L2
open PySem PySem.Spec PyProof.Rows PySem.W PySem.Builtin.Getset_descriptor
section
variable {X : Cx} {pins : List (Addr × Obj)} {σ : St} {H H' : Hp} {s s' : Shared} {a C : Addr}
end
section
variable {X : Cx}
end
end L2
namespace L2
open PySem PySem.Spec PyProof.Rows PySem.SeqAt
theorem entry_unchain : entryFor table "proto.unchain" = some Builtin.«proto.unchain»:=entryFor_of_fast (by kernel_rfl)
def Alone (x : Addr) (h : Heap) : Prop:=∃ o vs,h.get? x = some o /\ o.data = .fields vs /\ vs[2]? = some Value.none
theorem Alone.at {x : Addr} {h h' : Heap} (a : Alone x h) (k : ∀ o,h.get? x = some o -> h'.get? x = some o) : Alone x h':=let ⟨o,vs,e,r⟩:=a; ⟨o,vs,k o e,r⟩
theorem IsXD.alone {x C : Addr} {dv : Option Addr} {h : Heap} (I : IsXD x C dv h) : Alone x h:=let ⟨ox,vs,a,_,_,b,c⟩:=I; ⟨ox,vs,a,b,c⟩
section
variable {prog : Program} {w : World} {A : Around} {E : Value -> Shared -> Prop} {s : Shared}
theorem raiseNew_alone {α : Type} {e x : Addr} {oe : Obj} {es : Array Value} {Q : α -> Shared -> Prop} (hh : A.handled = some (.ref x)) (hx : Alone x s.heap) (ne : x ≠ e) (he : s.heap.get? e = some oe) (hd : oe.data = .fields es) (h2 : 2 < es.size)
    (hE : E (.ref e) { s with heap:=s.heap.update e (Obj.mapFields (·.setIfInBounds 2 (.ref x))) }) : wpAny (model prog w) A (raiseNew (α:=α) (.ref e)) Q E s:=by
  obtain ⟨ox,vs,e1,e2,e3⟩:=hx
  unfold raiseNew
  refine wpAny_bind (wpAny_handled ?_)
  rw [hh]
  have hb : (Value.ref x != Value.ref e) = true:=by simp [ne]
  dsimp only
  rw [if_pos hb]
  refine wpAny_bind (wpAny_holding (wpAny_runValue (codeAny_builtin entry_unchain ?_)))
  unfold Builtin.«proto.unchain»
  refine wpAny_bind (wpAny_field e1 e2 e3 ?_)
  rw [if_pos (by decide)]
  refine wpAny_bind (wpAny_pure ?_)
  refine wpAny_pure ?_
  refine wpAny_bind (wpAny_setField he hd h2 ?_)
  exact wpAny_throw hE
theorem pyNext_endH {it l x : Addr} {i : Nat} {items} {Q : Option Value -> Shared -> Prop} (hh : A.handled = some (.ref x)) (hal : Alone x s.heap) (nx : x ≠ it)
    (hit : s.heap.IsListIter it l i) (hl : s.heap.IsList l items) (hx : items[i]? = none)
    (hQ : ∀ h',Heap.ExtBut it s.heap h' -> Q none { s with heap:=h' }) : wpAny (model prog w) A (pyNext (.ref it)) Q E s:=by
  obtain ⟨o,ho,hc,hd⟩:=id hit
  obtain ⟨ol,hol,_,nl,hdl⟩:=hl
  unfold pyNext
  refine wpAny_bind (wpAny_attempt (wpAny_callSpecial?_slot (name:=Str.ofString "__next__") hit.typeIs slot_listiter_next
    (wpAny_call_entry slot_listiter_next hit.typeIs entry_listiter_next ?_ (args_listiter_next _))))
  show wpAny _ _ (field (.ref it) 0 >>= _) _ _ s
  refine wpAny_bind (wpAny_field ho hd (x:=.ref l) rfl ?_)
  show wpAny _ _ (if (Value.ref l == Value.none) = true then _ else _) _ _ s
  rw [if_neg (show ¬ ((Value.ref l == Value.none) = true) from Bool.false_ne_true)]
  show wpAny _ _ (field (.ref it) 1 >>= _) _ _ s
  refine wpAny_bind (wpAny_field ho hd (x:=.int i 0) rfl ?_)
  show wpAny _ _ (seqItems? (.ref l) >>= _) _ _ s
  refine wpAny_bind (wpAny_seqItems hol hdl ?_)
  simp only [Int.toNat_natCast,hx]
  refine wpAny_bind (wpAny_rule (wpAny_bind (wpAny_setField ho hd (by simp) ?_)))
  show wpAny _ _ (newExc (.type "StopIteration") [] >>= _) _ _ _
  refine wpAny_bind ?_
  simp only [newExc,newTuple]
  refine wpAny_bind (wpAny_newObj_type ?_ (by size_fits))
  refine wpAny_bind (m:=firstArgMember _ _) (wpAny_of_eq (a:=Value.none) (by first | rfl | (simp only [firstArgMember]; rfl)) ?_)
  refine wpAny_newObj_type ?_ (by size_fits)
  obtain ⟨g,eg⟩ : ∃ g,(s.heap.update it (Obj.mapFields (·.setIfInBounds 0 Value.none))) = g:=⟨_,rfl⟩
  have kg : Heap.ExtBut it s.heap g:=eg ▸ (Heap.SameBut.update ..).extBut
  rw [eg]
  have lt : x < g.objs.size:=by
    obtain ⟨ox,_,e1,_⟩:=hal
    exact Heap.lt_size (kg x ox nx e1)
  refine raiseNew_alone (x:=x) (A:=A.in1) hh (hal.at fun o e=>Heap.get?_push_of_some _ (Heap.get?_push_of_some _ (kg x o nx e))) ?_ (Heap.get?_push_size _ rfl) rfl (by simp; omega) ?_
  · rw [Heap.size_push]; exact Nat.ne_of_lt (Nat.lt_succ_of_lt lt)
  refine wpAny_bind (wpAny_isInstance (T := "StopIteration") (b:=true) ⟨_,Heap.get?_update_self _ (Heap.get?_push_size _ rfl) rfl,rfl⟩ isSubtype_stop ?_)
  refine wpAny_pure (hQ _ fun b o nb e=>?_)
  have e2:=kg b o nb e
  rw [Heap.get?_update_other _ _ (by rw [Heap.size_push]; exact (Nat.ne_of_lt (Nat.lt_succ_of_lt (Heap.lt_size e2))).symm)]
  exact Heap.get?_push_of_some _ (Heap.get?_push_of_some _ e2)
theorem walksH {x : Addr} (hh : A.handled = some (.ref x)) (I ax : Addr) (hne : ax ≠ I) (nx : x ≠ I) (items : Array Value) :
    Walks prog w A I [I,ax,x] [I] items.size (fun i v=>items[i]? = some v) (fun i h=>(h.IsListIter I ax i /\ h.IsList ax items) /\ Alone x h) where
  sub:=fun b hb=>by simp at hb; simp [hb]
  frame:=fun _ _ _ st hk=>⟨⟨st.1.1.at fun o e=>hk I (by simp) o e,st.1.2.at fun o e=>hk ax (by simp) o e⟩,st.2.at fun o e=>hk x (by simp) o e⟩
  item:=fun i s Q E hi st hQ=>by
    refine wpAny_pyNext_list_item st.1.1 st.1.2 (x:=items[i]) (by simp [hi]) fun h' hit' hs'=>?_
    exact hQ _ h' s.toks (by simp [hi]) ⟨⟨hit',st.1.2.extBut hs'.extBut hne⟩,st.2.at fun o e=>hs'.extBut x o nx e⟩ fun b o hb e=>hs'.extBut b o (fun h=>hb (by simp [h])) e
  done:=fun s Q E st hQ=>pyNext_endH hh st.2 nx st.1.1 st.1.2 (by simp) fun h' he'=>hQ h' s.toks fun b o hb e=>he' b o (fun h=>hb (by simp [h])) e
  self:=fun _ _ _ _ st hQ=>wpAny_pyIter_listiter st.1.1 hQ
end
section
variable {X : Cx}
theorem call_anyH (e : Addr) (hh : X.A.handled = some (.ref e)) : CallR X (.builtin "any") (fun xs H Q=>∃ (a C : Addr) (dv : Option Addr) (bs : List Bool),xs = [.ref a] /\ SqK X.K false H a (bs.map V.bl) /\ H e = some (.ext (IsXD e C dv)) /\ Q (.bl (bs.any id)) H):=by
  intro pins s σ H xs us Q I r h
  obtain ⟨a,C,dv,bs,rfl,hq,he,q⟩:=h
  obtain ⟨u,rfl,r1⟩:=vals1 r
  cases r1
  obtain ⟨its,rv,p,_⟩:=I.seqK hq
  have ix : IsXD e C dv s.heap:=(I.hok e _ he).1
  obtain ⟨w1,w2,w3⟩:=iterObj_walk p
  have hl:=rv.length
  rw [List.length_map] at hl
  have al:=ix.alone
  have nx : e ≠ s.heap.objs.size:=by
    obtain ⟨ox,_,e1,_⟩:=al
    exact Nat.ne_of_lt (Heap.lt_size e1)
  refine call_any_walkS (pyIter_seq p ⟨_,_,_,_,_,_,_,fun j=>bs.getD j false,rfl,(walksH (A:=X.A.in1) hh _ a w1 nx its.toArray).toS,⟨w2,al.at fun o k=>Heap.get?_push_of_some _ k⟩,fun i v s' Q' E' hv hQ=>?_,fun s' m=>?_⟩)
  · rw [bools_get rv i v hv]
    exact wpAny_truthy_bool hQ
  · refine ⟨.bl (bs.any id),H,I.movedNew m,?_,q⟩
    show Value.bool _ = _
    rw [List.size_toArray,<- hl,range_any]
theorem countB {bs : List Bool} {its : List Value} (r : Vals (bs.map V.bl) its) : its.countP (isBoolOf true) = bs.countP id:=by
  induction bs generalizing its with
  | nil=>cases r; rfl
  | cons b bs ih=>
    cases r with
    | cons a r=>
      cases a
      rw [List.countP_cons,List.countP_cons,ih r]
      cases b <;> rfl
theorem eqB {bs : List Bool} {its : List Value} (r : Vals (bs.map V.bl) its) : ∀ y,y ∈ its -> ∀ (A : Around) (s : Shared),EqAt A s y (.bool true) (isBoolOf true y):=by
  induction bs generalizing its with
  | nil=>cases r; intro y hy; exact absurd hy (by simp)
  | cons b bs ih=>
    cases r with
    | cons a r=>
      cases a
      intro y hy A s
      rcases List.mem_cons.mp hy with e4 | hy
      · rw [e4]; exact EqAt.bool_bool b true
      · exact ih r y hy A s
def rCountB : V -> List V -> Hp -> VK -> Prop:=fun x vs H Q=>∃ (l : Addr) (bs : List Bool),x = .ref l /\ vs = [.bl true] /\ H l = some (.lst (bs.map V.bl)) /\ Q (.int (bs.countP id : Nat)) H
theorem mt_countB : MtR X "list.count" rCountB:=by
  intro pins s σ H x vs v us Q I rx rv h
  obtain ⟨l,bs,rfl,rfl,hH,q⟩:=h
  cases rx
  obtain ⟨u,rfl,ru⟩:=rv.one
  obtain rfl : u = Value.bool true:=ru
  obtain ⟨z,its,n,r,hl,e⟩:=I.lstM hH
  refine call_meets PySem.F.slot_list_count ⟨_,e,rfl⟩ PySem.F.entry_list_count (PySem.F.args_list_count_2 _ _) (list_countAt l its.toArray n none #[] (.bool true) (isBoolOf true)) ⟨e,fun y hy=>eqB r y (by simpa using hy) _ _,?_⟩
  rw [show its.toArray.toList = its from rfl,countB r]
  exact ⟨.int _,H,I.tok _,⟨_,rfl⟩,q⟩
def rIndexB : V -> List V -> Hp -> VK -> Prop:=fun x vs H Q=>∃ (l : Addr) (bs : List Bool) (j : Nat),x = .ref l /\ vs = [.bl true] /\ H l = some (.lst (bs.map V.bl)) /\ bs.length <= 1000 /\ bs[j]? = some true /\ (∀ m,m < j -> bs[m]? = some false) /\ Q (.int (j : Nat)) H
theorem mt_indexB : MtR X "list.index" rIndexB:=by
  intro pins s σ H x vs v us Q I rx rv h
  obtain ⟨l,bs,j,rfl,rfl,hH,hz,hj,hno,q⟩:=h
  cases rx
  obtain ⟨u,rfl,ru⟩:=rv.one
  obtain rfl : u = Value.bool true:=ru
  obtain ⟨z,its,n,r,hl,e⟩:=I.lstM hH
  rw [List.length_map] at hl
  have lj : j < bs.length:=(List.getElem?_eq_some_iff.mp hj).1
  have at' : ∀ m (hm : m < its.toArray.size) b,bs[m]? = some b -> its.toArray[m] = Value.bool b:=fun m hm b hb=>by
    obtain ⟨u,hu,ru⟩:=r.get (show (bs.map V.bl)[m]? = some (V.bl b) by rw [List.getElem?_map,hb]; rfl)
    obtain rfl : u = Value.bool b:=ru
    have : its.toArray[m]? = some (Value.bool b):=by simpa using hu
    exact (Array.getElem?_eq_some_iff.mp this).2
  refine call_meets PySem.F.slot_list_index ⟨_,e,rfl⟩ PySem.F.entry_list_index (PySem.F.args_list_index_2 _ _)
    (list_indexAt l its.toArray n none #[] (.bool true) (isBoolOf true) j (by rw [List.size_toArray,<- hl]; exact lj) (by omega) ?_ ?_) ⟨e,fun y hy=>eqB r y (by simpa using hy) _ _,⟨.int _,H,I.tok _,⟨_,rfl⟩,q⟩⟩
  · rw [at' j _ true hj]; rfl
  · intro m hm hlt
    rw [at' m hm false (hno m hlt)]; rfl
def tTryDa (sp : Sp) (ta : TA) (i : Nat) (ok : Value -> Addr -> Prop) (ts : Addr -> TS) (set : V -> St -> St) : TS:=fun D σ H=>ta σ H fun vs H1=>sp vs H1 (fun v H2=>D.nx (set v σ) H2)
  (fun c dv H2=>∃ C,c = .ref C /\ ok c C /\ ∀ a,H2 a = none -> ts a { nx:=fun σ3 H3=>D.nx (σ3.set i none) H3,rt:=fun _ _=>False } (σ.set i (some (.ref a))) (upd H2 a (.ext (IsXD a C dv))))
theorem ps_tryADa {f : Addr} {fd : FuncData} {k : Nat} {ps : List Str} {sp : Sp} {g cn n y : Str} {i j : Nat} {CC : Addr} {p py cpos epos np hpos pos : Pos} {e : Expr} {es : List Expr} {ta : TA} {b₀ : Stmt} {suite : List Stmt} {ts : Addr -> TS}
    (F : FnOk X.prog X.w X.K X.mg X.base (CXD X.prog X.w) k f fd ps sp) (hr : Room k X.A) (hm : X.mg g = some (.ref f)) (hkp : PySem.W.keepIn X.K (.ref f) = true) (hb : Binds X.K fd ps []) (ha : PA X.nox (e :: es) ta)
    (hN : X.N.Nodup) (hi : X.N[i]? = some n) (hk : X.env.scope.names.lookup n = some .local) (hj : X.N[j]? = some y) (hy : X.env.scope.names.lookup y = some .local) (hsuite : ∀ a,PSs (suiteCx X a) (b₀ :: suite) (ts a)) (hcm : X.mg cn = some (.ref CC))
    (hg : Gl X g:=by rfl) (hgc : Gl X cn:=by rfl) (hex : ∀ b,b ∉ X.ex:=by intro b z; exact absurd (show b ∈ ([] : List Addr) from z) (by simp)) (hst : X.stack = X.env :: X.outer:=by rfl) (hfr : X.env.frame = some X.env.locals:=by rfl)
    (hdb : (g == ("__debug__" : Str)) = false:=by decide) (hdbc : (cn == ("__debug__" : Str)) = false:=by decide) (he : starEach (e :: es) X.env = (false,eval e X.env) :: starEach es X.env:=by rfl) (hpl : (backTo cpos (starEach es X.env)).any (·.1) = false:=by rfl)
    (hsw : swapsWith (.Call (.Name g p) (e :: es) [] cpos) (some (.Name y py)) epos.line X.env = pure false:=by rfl) :
    PS X (.Try [.Assign [.Name y py] (.Call (.Name g p) (e :: es) [] cpos) epos] [.ExceptHandler (some (.Name cn np)) (some n) (b₀ :: suite) hpos] [] [] pos) (tTryDa sp ta i (fun c _=>PySem.W.exmOne X.K c (.ref CC) = some true) ts (fun v σ=>σ.set j (some v))):=by
  intro pins s σ H D I h
  refine wpAny_Try_except (wpAny_execs_cons (wpAny_Assign_Name (thn (call_xG F hr hm hkp hb ha hg I h ?_ hdb he hpl) fun v s1 ⟨x,H1,I1,r1,q1⟩=>store_ok I1 hN hj (.inl hy) r1 (fun s2 I2=>wpAny_execs_nil (wpAny_execs_nil ⟨_,H1,I2,q1⟩)) (.inr hy)) hsw))
  intro H1 s1 v s' I1 hx
  obtain ⟨a,cls,a0,dv,H',B,rfl,Fl,dd,C,rfl,hok,q⟩:=hx
  exact handleD hN hi hk hex hst hfr hgc hcm hok I1 Fl dd (hsuite a) (q a Fl.new.2) hdbc
end
end L2
namespace L2
open PySem PySem.Spec PyProof.Rows PySem.SeqAt
section
variable {X : Cx}
theorem strsAre : ∀ {ss : List Str} {its : List Value},Vals (ss.map V.str) its -> StrsAre its ss
  | [],_,r=>by cases r; exact .nil
  | s :: ss,_,r=>by
    cases r with
    | cons a r=>
      obtain ⟨t,rfl⟩:=a
      exact .cons s t (strsAre r)
def rIndexS : V -> List V -> Hp -> VK -> Prop:=fun x vs H Q=>∃ (l : Addr) (ss : List Str) (s : Str) (j : Nat),x = .ref l /\ vs = [.str s] /\ Rd H l (.lst (ss.map V.str)) /\ ss.length <= 1000 /\ ss[j]? = some s /\ (∀ m,m < j -> ∃ t,ss[m]? = some t /\ t ≠ s) /\ Q (.int (j : Nat)) H
theorem mt_indexS : MtR X "list.index" rIndexS:=by
  intro pins s σ H x vs v us Q I rx rv h
  obtain ⟨l,ss,sx,j,rfl,rfl,hH,hz,hj,hno,q⟩:=h
  cases rx
  obtain ⟨u,rfl,ru⟩:=rv.one
  obtain ⟨tk,rfl⟩ : ∃ tk,u = Value.str sx tk:=ru
  obtain ⟨z,its,n,r,e⟩:=hH.ok I.hok
  have hl:=r.length
  rw [List.length_map] at hl
  have lj : j < ss.length:=(List.getElem?_eq_some_iff.mp hj).1
  have at' : ∀ m (hm : m < its.toArray.size) b,ss[m]? = some b -> ∃ t,its.toArray[m] = Value.str b t:=fun m hm b hb=>by
    obtain ⟨u,hu,ru⟩:=r.get (show (ss.map V.str)[m]? = some (V.str b) by rw [List.getElem?_map,hb]; rfl)
    obtain ⟨t,rfl⟩ : ∃ t,u = Value.str b t:=ru
    have : its.toArray[m]? = some (Value.str b t):=by simpa using hu
    exact ⟨t,(Array.getElem?_eq_some_iff.mp this).2⟩
  refine call_meets PySem.F.slot_list_index ⟨_,e,rfl⟩ PySem.F.entry_list_index (PySem.F.args_list_index_2 _ _)
    (list_indexAt l its.toArray n none #[] (.str sx tk) (isStrOf sx) j (by rw [List.size_toArray,<- hl]; exact lj) (by omega) ?_ ?_) ⟨e,fun y hy=>(eq_isStrOf sx tk (strsAre r) y (by simpa using hy)).at _ _,⟨.int _,H,I.tok _,⟨_,rfl⟩,q⟩⟩
  · obtain ⟨t,et⟩:=at' j (by rw [List.size_toArray,<- hl]; exact lj) sx hj
    rw [et]; simp [isStrOf]
  · intro m hm hlt
    obtain ⟨b,hb,hne⟩:=hno m hlt
    obtain ⟨t,et⟩:=at' m hm b hb
    rw [et]; simp [isStrOf,hne]
def tGGetT (val : Str -> V) (te : TE) : TE:=fun σ H Q=>te σ H fun y H1=>∃ w,y = .str w /\ Q (val w) H1
theorem pe_ggetT {n : Str} {a : Addr} {o : Obj} {es : Array DictEntry} {ep : Nat} {val : Str -> V} {e : Expr} {te : TE} {p apos cpos : Pos} (hg : Gl X n) (hm : X.mg n = some (.ref a)) (lk : X.K.lookup a = some o) (ty : o.cls = .type "dict") (ed : o.ExactDict) (od : o.data = .dict es ep) (ks : KeysOf (mixKind X.prog X.w) es) (hs : (a == sysModules) = false)
    (hv : ∀ w,RelV (val w) ((findBy (mixKind X.prog X.w).is es (.inr w)).getD .none)) (he : PE X e te) (hdb : (n == ("__debug__" : Str)) = false:=by decide)
    (base : attributeBase (.Name n p) "get" X.env (eval (.Name n p) X.env) = eval (.Name n p) X.env:=by rfl)
    (few : ((backTo cpos (starEach [e] X.env)).all (fun x=>!x.1) && (backToKw cpos (keywordEach [] X.env)).all (fun x=>x.1.isSome)
      && decide (([e] : List Expr).length + ([] : List Keyword).length + (if ([] : List Keyword).isEmpty then 0 else 1) < 30)) = true:=by rfl)
    (line : (apos.endLine == cpos.line) = true:=by rfl) (trees : backTo cpos (starEach [e] X.env) = [(false,eval e X.env)]:=by rfl) :
    PE X (.Call (.Attribute (.Name n p) "get" apos) [e] [] cpos) (tGGetT val te):=by
  intro pins s σ H Q I h
  have oa : ∀ {H' : Hp} {s' : Shared},Inv X pins σ H' s' -> s'.heap.get? a = some o:=fun J=>J.kIn _ _ lk
  refine wpAny_Call_method base few line PySem.F.plainAttrs_dict PySem.F.slot_dict_get PySem.F.type_dict_get (ld_glob I hg hm ?_ hdb)
  refine ⟨⟨o,oa I,ty⟩,fun b z=>⟨o,?_,?_⟩,?_⟩
  · cases z; exact oa I
  · exact ed.2.1
  · rw [trees]
    refine Calls.callWith_builtin rfl (Calls.evalArgs_plain (Calls.spliced_cons (thn (he pins s σ H _ I h) fun iv s2 ⟨y,H2,I2,ry,w,ey,q⟩=>Calls.spliced_nil ?_)))
    subst ey
    obtain ⟨tk,rfl⟩ : ∃ tk,iv = .str w tk:=ry
    have mo : s2.heap.MapOf (mixKind X.prog X.w) a (fun k=>findBy (mixKind X.prog X.w).is es k):=⟨o,es,ep,oa I2,ed,od,ks,fun _=>rfl⟩
    refine call_meetsIn PySem.F.slot_dict_get ⟨o,oa I2,ty⟩ PySem.F.entry_dict_get (PySem.F.args_dict_get_2 _ _) (meets_dict_get (mixKind X.prog X.w) a (k:=.inr w) (by simp [mixKind,keyIs,Value.isStrOf]) hs) ⟨_,mo,⟨val w,H2,I2.tok _,hv w,q⟩⟩
end
end L2
namespace L2
open PySem PySem.Spec PyProof.Rows
section
variable {X : Cx}
def rCatT0 (K : PySem.W.Frag) : R2:=fun x y H Q=>∃ a b ys,x = .ref a /\ y = .ref b /\ SqT K H a [] /\ SqT K H b ys /\ Q (.ref b) H
theorem op_catT0 : OpR X (binaryOp .Add) (rCatT0 X.K):=by
  intro pins s σ H x y v u Q I rx ry h
  obtain ⟨a,b,ys,rfl,rfl,ha,hb,q⟩:=h
  cases rx
  cases ry
  obtain ⟨its,r1,p1,_⟩:=I.tuple ha
  obtain ⟨its2,r2,p2,_⟩:=I.tuple hb
  have e1 : its = []:=r1.nil_iff.mpr rfl
  subst e1
  obtain ⟨⟨cls,dd,data,sl⟩,ho,hc,n,hd⟩:=id p1
  obtain ⟨⟨cls2,dd2,data2,sl2⟩,ho2,hc2,n2,hd2⟩:=id p2
  simp only at hc hd hc2 hd2
  subst hc hd hc2 hd2
  exact concat_meets ⟨_,ho,rfl⟩ ⟨_,ho2,rfl⟩ noFill_tuple_add seq_tuple_add PySem.F.slot_tuple_add PySem.F.entry_tuple_add (PySem.F.args_tuple_add_2 _ _)
    (tuple_addW0 a b ([] : List Value).toArray its2.toArray n n2 dd dd2 sl sl2 (by simp)) ⟨ho,ho2,⟨.ref b,H,I,rfl,q⟩⟩
abbrev rCat2 (K : PySem.W.Frag) : R2:=fun x y H Q=>rCatT K x y H Q \/ rCatT0 K x y H Q
theorem op_cat2 : OpR X (binaryOp .Add) (rCat2 X.K):=op_catT.or op_catT0
end
end L2
namespace L2
open PySem PySem.Spec PyProof.Rows
def PTs (X : Cx) (ifs : List Expr) (t : TT) : Prop:=
  ∀ (pins : List (Addr × Obj)) (s : Shared) (σ : St) (H : Hp) (Q : Bool -> Hp -> Prop),Inv X pins σ H s -> t σ H Q ->
    wpAny (model X.prog X.w) X.A (forIn ifs true fun c r=>if r = true then do let ok <- isTrue c X.env (eval c X.env); pure (ForInStep.yield ok) else pure (ForInStep.yield r)) (TP X pins σ Q) X.xe s
def tTrue : TT:=fun _ H Q=>Q true H
theorem pts_nil {X : Cx} : PTs X [] tTrue:=fun _ _ _ H _ I h=>wpAny_tests_nil ⟨H,I,h⟩
def compBodyT (J : It) (cap : List (Option Nat)) (g : TG) (tt : TT) (te : TE) (σ : St) (H1 : Hp) (Q : VK) : Prop:=∀ acc,H1 acc = none ->
  ∃ W : Nat -> Nat -> List V -> St -> Hp -> Prop,(∃ m,W 0 m [] (capOf cap σ) (upd H1 acc (.lst []))) /\ ∀ i m ys σ' H',W i m ys σ' H' -> H' acc = some (.lst ys) /\
    ((J.stop i H' /\ Q (.ref acc) H') \/ (J.go i H' /\ ys.length < sizeLine /\ ∀ x H2,J.yld i H' x H2 -> g x σ' H2 fun σ3 H3=>tt σ3 H3 fun b H4=>
      if b = true then te σ3 H4 fun y H5=>H5 acc = some (.lst ys) /\ ∃ m',m' < m /\ W (i + 1) m' (ys ++ [y]) σ3 (upd H5 acc (.lst (ys ++ [y])))
      else ∃ m',m' < m /\ W (i + 1) m' ys σ3 H4))
def tCompT (cap : List (Option Nat)) (wi : TI) (g : TG) (tt : TT) (te : TE) : TE:=fun σ H Q=>wi σ H fun J H1=>compBodyT J cap g tt te σ H1 Q
section
variable {prog : Program} {w : World} {A : Around} {R : Result -> Shared -> Prop} {s : Shared}
theorem compLoop_anyT {elt target iter : Expr} {ifs : List Expr} {scope : Scope} {pos : Pos} {it acc : Value} {env : Env} (I : Nat -> Shared -> Prop)
    (turn : ∀ n s,I n s -> wpAny (model prog w) A (pyNext it) (fun r s₁=>match r with
      | none=>R (.ok .next) s₁
      | some v=>wpAny (model prog w) A (letOwnedTupleGo target it v) (fun _ s₁'=>wpAny (model prog w) A (assign target env v) (fun _ s₂=>
          wpAny (model prog w) A (forIn ifs true fun c r=>if r = true then do let ok <- isTrue c env (eval c env); pure (ForInStep.yield ok) else pure (ForInStep.yield r)) (fun ok s₃=>
            if ok = true then wpAny (model prog w) A (eval elt env) (fun x s₄=>
              wpAny (model prog w) A (call (.builtin "list.append") [acc,x]) (fun _ s₅=>∃ m,m < n /\ I m s₅) (fun _ _=>False) s₄) (fun _ _=>False) s₃
            else ∃ m,m < n /\ I m s₃) (fun _ _=>False) s₂)
          (fun _ _=>False) s₁') (fun _ _=>False) s₁) (fun _ _=>False) s)
    (n : Nat) (h : I n s) : codeAny (model prog w) A (.compLoop (.ListComp elt [⟨target,iter,ifs,0⟩] scope pos) 0 it acc env) R s:=by
  refine codeAny_loop rfl I (fun n s hI=>?_) n h
  show wpAny _ A ((compTurn (.ListComp elt [⟨target,iter,ifs,0⟩] scope pos) 0 it acc env).onRaise (fun x=>do noteFrame x env; theTreesLotGoes x)) _ _ s
  refine wpAny_noted ?_
  rw [compTurn_list]
  refine wpAny_bind (wpAny_standAt (wpAny_bind (wpAny_mono (turn n s hI) (fun r s₁ h₁=>?_) fun _ _ h'=>h'.elim)))
  cases r with
  | none=>exact wpAny_pure h₁
  | some v=>
    refine wpAny_bind (wpAny_mono h₁ (fun _ s₁' h₁'=>?_) fun _ _ h'=>h'.elim)
    refine wpAny_bind (wpAny_mono h₁' (fun _ s₂ h₂=>wpAny_bind (wpAny_mono h₂ (fun ok s₃ h₃=>?_) fun _ _ h'=>h'.elim)) fun _ _ h'=>h'.elim)
    cases ok with
    | true=>
      rw [if_pos rfl] at h₃
      exact wpAny_bind (wpAny_bind (wpAny_mono h₃ (fun x s₄ h₄=>wpAny_bind (wpAny_mono h₄ (fun _ s₅ h₅=>wpAny_pure (wpAny_pure ⟨rfl,h₅⟩)) fun _ _ h'=>h'.elim)) fun _ _ h'=>h'.elim))
    | false=>
      rw [if_neg Bool.false_ne_true] at h₃
      exact wpAny_bind (wpAny_pure (wpAny_pure ⟨rfl,h₃⟩))
end
section
variable {X : Cx}
theorem comp_coreT {elt tg iter : Expr} {ifs : List Expr} {tt : TT} {pos : Pos} {N N' : List Str} {sc scE : Scope} {cap : List (Option Nat)} {wi : TI} {g : TG} {te : TE} {use : Option (Value -> Sem Unit)} {QQ : Value -> Shared -> Prop} (hcalm : X.calm = true) (hi : PI X tg iter wi)
    (hg : ∀ cl C s0 H0 ex,PG (blkC X N' sc cl C s0 H0 ex) tg g) (he : ∀ cl C s0 H0 ex,PE (blkC X N' sc cl C s0 H0 ex) elt te) (htt : ∀ cl C s0 H0 ex,PTs (blkC X N' sc cl C s0 H0 ex) ifs tt)
    (hN : X.N = N) (hE : X.env.scope = scE) (hc : compOkC N N' sc scE cap = true) (hs : ∀ x,foldedSetIterable iter X.env x = pure x)
    {pins : List (Addr × Obj)} {s : Shared} {σ : St} {H : Hp} {Q : VK} (I : Inv X pins σ H s) (h : tCompT cap wi g tt te σ H Q)
    (fin : ∀ acc C H' s' m,Inv X pins σ H' s' -> s'.heap.Ns C m -> FpOk X pins H' C -> Q (.ref acc) H' -> compPost (model X.prog X.w) X.A X.xe use QQ (.ref acc) C (.ok .next) s') {pos' : Pos} :
    wpAny (model X.prog X.w) X.A (comprehension (.ListComp elt [⟨tg,iter,ifs,0⟩] sc pos) sc X.env pos' (newList []) false (eval iter X.env) use) QQ X.xe s:=by
  have ck:=compOkC.of hc
  obtain ⟨cl,hcl,c1,c2⟩:=closure_of (scope:=sc) (env:=X.env) fun x hx hf=>I.ok.has x.1 (by
    have:=ck.fre x hx hf
    rw [<- hE] at this
    exact this)
  refine wpAny_comprehension_free (use:=use) rfl hs hcl ck.kind ck.loc (thn (hi pins s σ H _ I h) fun v s1 h1=>thn h1 fun itv s2 h2=>?_)
  obtain ⟨it,fp,tn,J,H2,e,I2,T,st2,f2,hw⟩:=h2
  subst e
  have fsz : ∀ b ∈ fp,b < s2.heap.objs.size:=fun b hb=>by
    obtain ⟨o,e,_⟩:=T.obj _ _ st2 b hb
    exact Heap.lt_size e
  obtain ⟨W,⟨m0,w0⟩,turn⟩:=hw s2.heap.objs.size I2.fresh
  refine wpAny_newObj_type (wpAny_newEnvC ?_)
  dsimp only
  have I3 : Inv X pins σ (upd H2 s2.heap.objs.size (.lst [])) { s2 with heap:=s2.heap.push { cls:=.type "list",data:=.seq ([] : List Value).toArray } }:=
    I2.lnew (its:=[]) (ys:=[]) (t':=s2.toks) .nil (Nat.zero_le _)
  generalize hs3 : ({ s2 with heap:=s2.heap.push { cls:=.type "list",data:=.seq ([] : List Value).toArray } } : Shared) = s3 at I3
  have hh3 : s3.heap = s2.heap.push { cls:=.type "list",data:=.seq ([] : List Value).toArray }:=by rw [<- hs3]
  have hsz : s3.heap.objs.size = s2.heap.objs.size + 1:=by rw [hh3,Heap.size_push]
  have f3 : ∀ b ∈ fp,FpOk X pins (upd H2 s2.heap.objs.size (.lst [])) b:=fun b hb=>by
    obtain ⟨g0,g1⟩:=f2 b hb
    exact ⟨by rw [upd_ne (Nat.ne_of_lt (fsz b hb))]; exact g0,g1⟩
  have k3 : ∀ b o,s2.heap.get? b = some o -> s3.heap.get? b = some o:=fun b o e=>by rw [hh3]; exact Heap.get?_push_of_some _ e
  obtain ⟨cl',hcl'⟩ : ∃ cl',cellsFrom (s3.heap.objs.size + 1) sc.names cl = cl':=⟨_,rfl⟩
  obtain ⟨h₁,hh₁⟩ : ∃ h₁,pushCells (s3.heap.push { cls:=.type "dict",data:=.dict #[] }) sc.names = h₁:=⟨_,rfl⟩
  have k1 : ∀ b o,s3.heap.get? b = some o -> h₁.get? b = some o:=fun b o e=>by rw [<- hh₁]; exact pushCells_keeps _ _ b o (Heap.get?_push_of_some _ e)
  have c1' : ∀ x c,cl'.lookup x = some c -> cl.lookup x = some c \/ s3.heap.objs.size + 1 <= c:=fun x c e=>by
    rw [<- hcl'] at e
    have:=cellsFrom_look (sc.names) (s3.heap.push { cls:=.type "dict",data:=.dict #[] }) cl x c (by rw [Heap.size_push]; exact e)
    rcases this with z | ⟨_,z,_⟩
    · exact .inl z
    · rw [Heap.size_push] at z; exact .inr z
  have I4 : Inv (blkC X N' sc cl' s3.heap.objs.size s3 (upd H2 s2.heap.objs.size (.lst [])) fp) [] (capOf cap σ) (upd H2 s2.heap.objs.size (.lst [])) { s3 with heap:=h₁ }:=by
    rw [<- hcl',<- hh₁]
    exact blk_invC I3 hN hE ck c1 c2 f3 (fun b hb=>Nat.lt_of_lt_of_le (fsz b hb) (by rw [hsz]; exact Nat.le_succ _))
  have st4 : tn 0 h₁:=T.keep _ _ _ st2 fun b hb o e=>k1 b o (k3 b o e)
  generalize hX' : blkC X N' sc cl' s3.heap.objs.size s3 (upd H2 s2.heap.objs.size (.lst [])) fp = X' at I4
  have hxe : X'.xe = fun _ _=>False:=by rw [<- hX']; rfl
  have hprog : X'.prog = X.prog:=by rw [<- hX']; rfl
  have hww : X'.w = X.w:=by rw [<- hX']; rfl
  have hKK : X'.K = X.K:=by rw [<- hX']; rfl
  have hAA : X'.A = X.A:=by rw [<- hX']; rfl
  have hcc : X'.calm = true:=by rw [<- hX']; exact hcalm
  have henv : X'.env = compEnvC sc cl' s3.heap.objs.size X.env:=by rw [<- hX']; rfl
  have hloc : X'.env.locals = s3.heap.objs.size:=by rw [henv]; rfl
  have hg' : PG X' tg g:=by rw [<- hX']; exact hg _ _ _ _ _
  have he' : PE X' elt te:=by rw [<- hX']; exact he _ _ _ _ _
  have htt' : PTs X' ifs tt:=by rw [<- hX']; exact htt _ _ _ _ _
  have stat : ∀ {H' : Hp},(∀ b ∈ fp,H' b = none) -> ∀ b ∈ fp,FpOk X' [] H' b:=fun {H'} hn b hb=>by
    obtain ⟨_,g1,g2,g3,g4,g5⟩:=f3 b hb
    refine ⟨hn b hb,by rw [hloc,hsz]; exact Nat.ne_of_lt (Nat.lt_succ_of_lt (fsz b hb)),?_,?_,?_,fun p hp=>?_⟩
    · rw [<- hX']
      intro z
      rcases List.mem_cons.mp (I3.stkSub b z) with e | z
      · exact g1 e
      · exact g2 z
    · left
      rw [<- hX']
      exact hb
    · intro x c e
      rw [henv] at e
      rcases c1' x c e with z | z
      · exact g4 x c (c1 x c z)
      · exact fun q=>absurd (Nat.lt_of_lt_of_le (fsz b hb) (Nat.le_trans (Nat.le_trans (Nat.le_succ _) (hsz ▸ Nat.le_succ _)) (q ▸ z))) (Nat.lt_irrefl _)
    · rw [<- hX'] at hp
      cases hp
  have fin' : ∀ {σ' : St} {H' : Hp} {s' : Shared},Inv X' [] σ' H' s' -> Q (.ref s2.heap.objs.size) H' -> compPost (model X.prog X.w) X.A X.xe use QQ (.ref s2.heap.objs.size) s3.heap.objs.size (.ok .next) s':=fun {σ' H' s'} J q=>by
    obtain ⟨mm,hmm,_⟩:=J.loc
    rw [hloc] at hmm
    have hfree : H' s3.heap.objs.size = none:=by have:=J.free; rw [hloc] at this; exact this
    have hok:=J.hok
    rw [hprog,hww] at hok
    have u1 : Un (frs X.stack) fp (upd H2 s2.heap.objs.size (.lst [])) H' s3.heap s'.heap:=by
      have:=J.base
      rw [<- hX'] at this
      exact this
    have hos : s'.os = s3.os:=by have:=J.os; rw [<- hX'] at this; exact this
    refine fin _ _ H' s' mm (I3.call' (s':=s') hos u1 hok J.bare fun b hb=>?_) hmm (I3.fpOk (Nat.le_refl _) hfree) q
    obtain ⟨_,g1,g2,g3,g4,g5⟩:=f3 b hb
    exact ⟨g3,g1,g4,g5⟩
  have loop : codeAny (model X.prog X.w) X.A (.compLoop (.ListComp elt [⟨tg,iter,ifs,0⟩] sc pos) 0 (.ref it) (.ref s2.heap.objs.size) X'.env)
      (compPost (model X.prog X.w) X.A X.xe use QQ (.ref s2.heap.objs.size) s3.heap.objs.size) { s3 with heap:=h₁ }:=by
    refine compLoop_anyT (fun n s'=>∃ i ys σ' H',Inv X' [] σ' H' s' /\ tn i s'.heap /\ (∀ b ∈ fp,H' b = none) /\ W i n ys σ' H') ?_ m0 ⟨0,[],_,_,I4,st4,fun b hb=>(f3 b hb).1,w0⟩
    rintro n s5 ⟨i,ys,σ5,H5,I5,st5,fr5,w5⟩
    obtain ⟨hacc,q⟩:=turn i n ys σ5 H5 w5
    rcases q with ⟨stop,q⟩ | ⟨go,hlen,step⟩
    · refine thn (hAA ▸ T.done X' hprog hww hKK hcc i [] s5 σ5 H5 _ I5 (stat fr5) st5 stop) fun r s6 ⟨hr,I6⟩=>?_
      subst hr
      exact fin' I6 q
    · refine thn (hAA ▸ T.item X' hprog hww hKK hcc i [] s5 σ5 H5 _ I5 (stat fr5) st5 go) fun r s6 ⟨u,hr,h6⟩=>?_
      subst hr
      refine thn h6 fun _ s7 ⟨x,H7,I7,r7,y7,st7,fr7⟩=>?_
      have I7':=I7.pinned (stat fr7) (T.obj _ _ st7)
      have g7:=hg' _ s7 σ5 H7 x u _ I7' r7 (step x H7 y7)
      rw [hprog,hww,hAA,hxe] at g7
      refine thn g7 fun _ s8 ⟨σ8,H8,I8,q8⟩=>?_
      have t8:=htt' _ s8 σ8 H8 _ I8 q8
      rw [hprog,hww,hAA,hxe] at t8
      refine thn t8 fun okb s8t ⟨H8t,I8t,q8t⟩=>?_
      cases okb with
      | false=>
        rw [if_neg Bool.false_ne_true] at q8t ⊢
        obtain ⟨m',hm',w9⟩:=q8t
        refine ⟨m',hm',i + 1,_,σ8,_,I8t.unpinned,T.keep _ _ _ st7 fun b hb o eo=>(I8t.pin (b,o) (List.mem_append_right _ (List.mem_append_right _ (mem_pinsAt hb eo)))).1,fun b hb=>?_,w9⟩
        obtain ⟨o,eo,d⟩:=T.obj _ _ st7 b hb
        exact (I8t.pin (b,o) (List.mem_append_right _ (List.mem_append_right _ (mem_pinsAt hb eo)))).2.1
      | true=>
      rw [if_pos rfl] at q8t ⊢
      have g8:=he' _ s8t σ8 H8t _ I8t q8t
      rw [hprog,hww,hAA,hxe] at g8
      refine thn g8 fun y s9 ⟨yv,H9,I9,r9,a9,m',hm',w9⟩=>?_
      obtain ⟨z,its,nn,rr,hl,e⟩:=I9.lstM a9
      refine call_meets F.slot_list_append ⟨_,e,rfl⟩ F.entry_list_append (F.args_list_append_2 _ _) (PySem.list_append _ its.toArray nn y (by rw [List.size_toArray]; omega)) ⟨e,?_⟩
      have I10 : Inv X' ([] ++ pinsAt fp s7.heap) σ8 (upd H9 s2.heap.objs.size (.lst (ys ++ [yv]))) { s9 with heap:=s9.heap.update s2.heap.objs.size (Obj.mapSeq fun a=>a.push y) }:=
        I9.lset (t':=s9.toks) (its':=its ++ [y]) a9 e (by simp) (rr.append (.cons r9 .nil)) (by rw [List.length_append,List.length_singleton]; omega)
      refine ⟨m',hm',i + 1,_,σ8,_,I10.unpinned,T.keep _ _ _ st7 fun b hb o eo=>(I10.pin (b,o) (List.mem_append_right _ (List.mem_append_right _ (mem_pinsAt hb eo)))).1,fun b hb=>?_,w9⟩
      obtain ⟨o,eo,d⟩:=T.obj _ _ st7 b hb
      exact (I10.pin (b,o) (List.mem_append_right _ (List.mem_append_right _ (mem_pinsAt hb eo)))).2.1
  rw [henv] at loop
  have goal:=codeAny_compStart_list (rest:=[]) (ifs:=ifs) loop (T.self X.A 0 _ _ _ st4 loop)
  subst hs3
  rw [<- hcl',<- hh₁] at goal
  exact goal
theorem pe_compT {elt tg iter : Expr} {ifs : List Expr} {tt : TT} {pos : Pos} {N N' : List Str} {sc scE : Scope} {cap : List (Option Nat)} {wi : TI} {g : TG} {te : TE} (hcalm : X.calm = true) (hi : PI X tg iter wi)
    (hg : ∀ cl C s0 H0 ex,PG (blkC X N' sc cl C s0 H0 ex) tg g) (he : ∀ cl C s0 H0 ex,PE (blkC X N' sc cl C s0 H0 ex) elt te) (htt : ∀ cl C s0 H0 ex,PTs (blkC X N' sc cl C s0 H0 ex) ifs tt)
    (hN : X.N = N:=by rfl) (hE : X.env.scope = scE:=by rfl) (hc : compOkC N N' sc scE cap = true:=by decide +kernel) (hs : ∀ x,foldedSetIterable iter X.env x = pure x:=by intro _; rfl) :
    PE X (.ListComp elt [⟨tg,iter,ifs,0⟩] sc pos) (tCompT cap wi g tt te):=by
  intro pins s σ H Q I h
  rw [eval_ListComp]
  refine comp_coreT (use:=none) hcalm hi hg he htt hN hE hc hs I h fun acc C H' s' m I' hm hf q=>⟨m,hm,fun h' hs'=>?_⟩
  obtain ⟨f0,f1,f2,f3,f4,f5⟩:=hf
  exact ⟨.ref acc,H',I'.turned (t':=s'.toks) (fun b o hb e=>(hs'.2 b hb).trans e) f0 f1 f3 f4 f5,rfl,q⟩
theorem ps_compT {ifs : List Expr} {tt : TT} {i : Nat} {x : Str} {px spos : Pos} {elt tg iter : Expr} {pos : Pos} {N N' : List Str} {sc scE : Scope} {cap : List (Option Nat)} {wi : TI} {g : TG} {te : TE} (hnd : X.N.Nodup) (hix : X.N[i]? = some x) (hx : Loc X.env.scope x) (hcalm : X.calm = true) (hi : PI X tg iter wi)
    (hg : ∀ cl C s0 H0 ex,PG (blkC X N' sc cl C s0 H0 ex) tg g) (he : ∀ cl C s0 H0 ex,PE (blkC X N' sc cl C s0 H0 ex) elt te) (htt : ∀ cl C s0 H0 ex,PTs (blkC X N' sc cl C s0 H0 ex) ifs tt)
    (hsw : swapsWith (.ListComp elt [⟨tg,iter,ifs,0⟩] sc pos) (some (.Name x px)) spos.line X.env = pure true:=by rfl)
    (hN : X.N = N:=by rfl) (hE : X.env.scope = scE:=by rfl) (hc : compOkC N N' sc scE cap = true:=by decide +kernel) (hs : ∀ x,foldedSetIterable iter X.env x = pure x:=by intro _; rfl)
    (hf : X.fn x = true \/ X.env.scope.names.lookup x = some .local:=by first | exact .inl rfl | exact .inr rfl | assumption) :
    PS X (.Assign [.Name x px] (.ListComp elt [⟨tg,iter,ifs,0⟩] sc pos) spos) (tAsg (tCompT cap wi g tt te) (gName i)):=by
  intro pins s σ H D I h
  rw [exec_Assign_Name_used _ _ _ _ hsw]
  refine wpAny_bind (wpAny_standAt (wpAny_bind ?_))
  show wpAny _ _ (do let _ <- comprehension (.ListComp elt [⟨tg,iter,ifs,0⟩] sc pos) sc X.env _ (newList []) false (eval iter X.env) (some (assign (.Name x px) X.env))) _ _ s
  refine wpAny_bind (wpAny_mono (comp_coreT (use:=some (assign (.Name x px) X.env)) (QQ:=fun _ s'=>SP X pins D .next s') hcalm hi hg he htt hN hE hc hs I h ?_) (fun _ s' hq=>wpAny_pure (wpAny_pure hq)) fun _ _ e=>e)
  intro acc C H' s' m I' hm hfp q
  obtain ⟨f0,f1,f2,f3,f4,f5⟩:=hfp
  show wpAny _ _ (assign (.Name x px) X.env (.ref acc)) _ _ _
  refine wpAny_assign_Name (store_ok2 I' hnd hix hx (v:=.ref acc) rfl (fun s2 I2 ⟨a,sb,ha⟩=>⟨m,?_,fun h' hs'=>?_⟩) hf)
  · refine hm.sameBut sb fun z=>?_
    rcases ha with ha | ha
    · exact f1 (z.trans ha)
    · exact f4 x a ha z.symm
  · exact ⟨_,H',I2.turned (t':=s2.toks) (fun b o hb e=>(hs'.2 b hb).trans e) f0 f1 f3 f4 f5,q⟩
end
end L2
namespace L2
open PySem PySem.Spec PyProof.Rows
section
variable {X : Cx} {e e3 : Expr} {te t3 : TE} {pos p2 : Pos}
end
end L2
namespace L2
open PySem PySem.Spec PyProof.Rows
section
variable {X : Cx} {a : Expr} {ta : TA} {p p' pos pos' : Pos}
end
end L2
namespace L2
open PySem PySem.Spec PyProof.Rows
def metN (ns : List Int) : List Int:=firstMet (fun i=>ns.getD i 0) ns.length
section
variable {X : Cx}
end
end L2
namespace L2
open PySem PySem.Spec PyProof.Rows
section
variable {κ : Type} [DecidableEq κ]
def valV (kvs : List (κ × V)) (k : κ) : Option V:=(kvs.find? fun kv=>decide (kv.1 = k)).map (·.2)
def putK (kvs : List (κ × V)) (k : κ) (v : V) : List (κ × V):=
  if (kvs.any fun kv=>decide (kv.1 = k)) = true then kvs.map (fun kv=>if kv.1 = k then (kv.1,v) else kv) else kvs ++ [(k,v)]
def dropK (kvs : List (κ × V)) (k : κ) : List (κ × V):=kvs.filter fun kv=>decide (kv.1 ≠ k)
theorem valV_pos {p : κ × V} {r : List (κ × V)} {k : κ} (e : p.1 = k) : valV (p :: r) k = some p.2:=by simp [valV,List.find?_cons,e]
theorem valV_neg {p : κ × V} {r : List (κ × V)} {k : κ} (e : ¬ p.1 = k) : valV (p :: r) k = valV r k:=by simp [valV,List.find?_cons,e]
theorem valV_any (k : κ) : ∀ kvs : List (κ × V),(kvs.any fun kv=>decide (kv.1 = k)) = (valV kvs k).isSome
  | []=>rfl
  | p :: r=>by
    rw [List.any_cons]
    by_cases e : p.1 = k
    · simp only [valV_pos e,decide_eq_true e,Bool.true_or,Option.isSome_some]
    · rw [valV_neg e,decide_eq_false e,Bool.false_or]; exact valV_any k r
theorem length_putK (kvs : List (κ × V)) (k : κ) (v : V) : (putK kvs k v).length <= kvs.length + 1:=by
  unfold putK
  split
  · rw [List.length_map]; omega
  · rw [List.length_append,List.length_cons,List.length_nil]; omega
theorem RelO.getD {o : Option V} {u : Option Value} {d : V} {d' : Value} (r : RelO o u) (rd : RelV d d') : RelV (o.getD d) (u.getD d'):=by
  cases o with
  | none=>cases u with
    | none=>exact rd
    | some _=>exact (show False from r).elim
  | some _=>cases u with
    | none=>exact (show False from r).elim
    | some _=>exact r
theorem KV.val {kvs : List (κ × V)} {vs : List (κ × Value)} (r : KV kvs vs) (k : κ) : RelO (valV kvs k) (valueAt vs k):=by
  unfold KV at r
  induction r with
  | nil=>exact True.intro
  | @cons p q ps qs h t ih=>
    obtain ⟨h1,h2⟩:=h
    by_cases e : p.1 = k
    · have e' : q.1 = k:=h1.symm.trans e
      have b : valueAt (q :: qs) k = some q.2:=by simp [valueAt,List.find?_cons,e']
      rw [valV_pos e,b]; exact h2
    · have e' : ¬ q.1 = k:=fun z=>e (h1.trans z)
      have b : valueAt (q :: qs) k = valueAt qs k:=by simp [valueAt,List.find?_cons,e']
      rw [valV_neg e,b]; exact ih
theorem KV.any {kvs : List (κ × V)} {vs : List (κ × Value)} (r : KV kvs vs) (k : κ) : (kvs.any fun kv=>decide (kv.1 = k)) = vs.any fun kv=>decide (kv.1 = k):=by
  unfold KV at r
  induction r with
  | nil=>rfl
  | cons h t ih=>rw [List.any_cons,List.any_cons,ih,h.1]
theorem KV.repl {kvs : List (κ × V)} {vs : List (κ × Value)} (r : KV kvs vs) (k : κ) {y : V} {u : Value} (ry : RelV y u) :
    KV (kvs.map fun kv=>if kv.1 = k then (kv.1,y) else kv) (vs.map fun kv=>if kv.1 = k then (kv.1,u) else kv):=by
  unfold KV at r ⊢
  induction r with
  | nil=>exact .nil
  | @cons p q ps qs h t ih=>
    rw [List.map_cons,List.map_cons]
    refine .cons ?_ ih
    obtain ⟨h1,h2⟩:=h
    by_cases e : p.1 = k
    · rw [if_pos e,if_pos (h1.symm.trans e)]; exact ⟨h1,ry⟩
    · rw [if_neg e,if_neg (fun z=>e (h1.trans z))]; exact ⟨h1,h2⟩
theorem KV.put {kvs : List (κ × V)} {vs : List (κ × Value)} (r : KV kvs vs) (k : κ) {y : V} {u : Value} (ry : RelV y u) : KV (putK kvs k y) (stored vs k u):=by
  unfold putK stored
  rw [r.any k]
  by_cases e : (vs.any fun kv=>decide (kv.1 = k)) = true
  · rw [if_pos e,if_pos e]; exact r.repl k ry
  · rw [if_neg e,if_neg e]; exact Paired.snoc r ⟨rfl,ry⟩
end
theorem kV_is {P : Program} {w : World} {k : Key} {u : Value} (r : RelV (kV k) u) : (mixKind P w).is k u = true:=by
  cases k with
  | inl i=>obtain ⟨t,e⟩:=(show ∃ t,u = Value.int i t from r); subst e; exact mixKind_int P w i t
  | inr x=>obtain ⟨t,e⟩:=(show ∃ t,u = Value.str x t from r); subst e; exact mixKind_str P w x t
theorem items_are {P : Program} {w : World} : ∀ {ks : List Key} {us : List Value},Vals (ks.map kV) us -> ItemsAre (mixKind P w) ks us
  | [],_,r=>by rw [List.map_nil] at r; cases r; exact .nil
  | k :: ks,_,r=>by
    rw [List.map_cons] at r
    cases r with
    | cons h t=>exact .cons (kV_is h) (items_are t)
abbrev KT (H : Hp) : List (List Key × V) -> List (List Key × Addr × Value) -> Prop:=Paired fun p q=>p.1 = q.1 /\ H q.2.1 = some (.tup (p.1.map kV)) /\ RelV p.2 q.2.2
theorem KT.val {H : Hp} {kvs : List (List Key × V)} {xs : List (List Key × Addr × Value)} (r : KT H kvs xs) (k : List Key) : RelO (valV kvs k) ((atKey xs k).map (·.2)):=by
  induction r with
  | nil=>exact True.intro
  | @cons p q ps qs h t ih=>
    obtain ⟨h1,_,h2⟩:=h
    by_cases e : p.1 = k
    · have e' : q.1 = k:=h1.symm.trans e
      have b : atKey (q :: qs) k = some q.2:=by simp [atKey,List.find?_cons,e']
      rw [valV_pos e,b]; exact h2
    · have e' : ¬ q.1 = k:=fun z=>e (h1.trans z)
      have b : atKey (q :: qs) k = atKey qs k:=by simp [atKey,List.find?_cons,e']
      rw [valV_neg e,b]; exact ih
section
variable {P : Program} {w : World} {H : Hp} {h : Heap} {a : Addr}
theorem rd_of {u : HO} (ok : HOk P w H h) (e : Rd H a u) : ObjOk P w H h a u:=e.ok ok
theorem dk_rd {kvs : List (Key × V)} (ok : HOk P w H h) (e : Rd H a (.dK kvs)) : kvs.length <= sizeLine /\ (a == sysModules) = false /\ ∃ vs,KV kvs vs /\ h.DictOf (mixKind P w) a vs:=
  show ObjOk P w H h a (.dK kvs) from rd_of ok e
theorem dk_of {kvs : List (Key × V)} (ok : HOk P w H h) (e : H a = some (.dK kvs)) : kvs.length <= sizeLine /\ (a == sysModules) = false /\ ∃ vs,KV kvs vs /\ h.DictOf (mixKind P w) a vs:=dk_rd ok (.inl e)
theorem key_of {ks : List Key} (ok : HOk P w H h) (e : H a = some (.tup (ks.map kV))) : (tupleKind (mixKind P w)).is h ks a:=by
  obtain ⟨_,its,r,o,h1,h2,n,h3⟩:=(show ObjOk P w H h a (.tup (ks.map kV)) from ok a _ e)
  exact ⟨o,its.toArray,n,h1,h2,h3,by simpa using items_are r⟩
theorem dt_rd {kvs : List (List Key × V)} (ok : HOk P w H h) (e : Rd H a (.dT kvs)) : kvs.length <= sizeLine /\ (a == sysModules) = false /\
    ∃ xs,KT H kvs xs /\ h.DictOfH (tupleKind (mixKind P w)) a xs:=by
  obtain ⟨z,y,xs,r,o,es,ep,h1,h2,h3,h4,h5⟩:=(show ObjOk P w H h a (.dT kvs) from rd_of ok e)
  refine ⟨z,y,xs,r,o,es,ep,h1,h2,h3,h4,fun x hx=>?_,h5⟩
  have all : ∀ {l : List (List Key × V)} {m : List (List Key × Addr × Value)},KT H l m -> ∀ x ∈ m,(tupleKind (mixKind P w)).is h x.1 x.2.1:=by
    intro l m q
    induction q with
    | nil=>intro x hx; exact nomatch hx
    | @cons p q ps qs hq t ih=>
      intro x hx
      rcases List.mem_cons.mp hx with e | hx
      · subst e
        exact key_of ok (by rw [<- hq.1]; exact hq.2.1)
      · exact ih x hx
  exact all r x hx
end
def DGet (H : Hp) (a : Addr) (y : V) (r : Option V) : Prop:=
  (∃ kvs k,Rd H a (.dK kvs) /\ y = kV k /\ r = valV kvs k) \/ ∃ kvs k b,Rd H a (.dT kvs) /\ y = .ref b /\ H b = some (.tup (k.map kV)) /\ r = valV kvs k
def DPut (H : Hp) (a : Addr) (y v : V) (H' : Hp) : Prop:=
  (∃ kvs k,H a = some (.dK kvs) /\ y = kV k /\ kvs.length < sizeLine /\ H' = upd H a (.dK (putK kvs k v))) \/
  ∃ kvs k b,H a = some (.dT kvs) /\ y = .ref b /\ H b = some (.tup (k.map kV)) /\ kvs.length < sizeLine /\ H' = upd H a (.dT (putK kvs k v))
theorem DGet.k {H : Hp} {a : Addr} {kvs : List (Key × V)} {k : Key} (e : H a = some (.dK kvs)) : DGet H a (kV k) (valV kvs k):=.inl ⟨kvs,k,.inl e,rfl,rfl⟩
section
variable {X : Cx} {pins : List (Addr × Obj)} {σ : St} {H : Hp} {s : Shared} {a : Addr} {y v : V} {u r : Value} {o : Option V} {A : Around} {E : Value -> Shared -> Prop}
theorem Inv.big (I : Inv X pins σ H s) : sysModules < s.heap.objs.size:=by
  have h : mainGlobals < s.heap.objs.size:=(I.mod.glob.keeps I.bk).lt
  exact Nat.lt_trans (by decide) h
theorem d_write {h' : Heap} {t' : Nat} {ob : HO} (I : Inv X pins σ H s) (mu : Mut (H a)) (hs : Heap.SameBut a s.heap h') (he : ∃ q,h'.get? a = some q) (new : ObjOk X.prog X.w (upd H a ob) h' a ob) :
    Inv X pins σ (upd H a ob) { s with heap:=h',toks:=t' }:=
  I.write (x:=a) (e:=a) mu (.inl rfl) (fun b q hb z=>(hs.2 b hb).trans z) he new
theorem dk_new {P : Program} {w : World} {H' : Hp} {h' : Heap} {kvs : List (Key × V)} {vs : List (Key × Value)} (z : kvs.length <= sizeLine) (hd : (a == sysModules) = false) (rel : KV kvs vs) (dd : h'.DictOf (mixKind P w) a vs) :
    ObjOk P w H' h' a (.dK kvs):=⟨z,hd,vs,rel,dd⟩
end
section
variable {X : Cx} {pins : List (Addr × Obj)} {σ : St} {H : Hp} {s : Shared} {a : Addr} {kvs : List (Key × V)} {k : Key} {u : Value} {A : Around} {E : Value -> Shared -> Prop}
end
section
variable {X : Cx} {o i e value : Expr} {pos pos' tpos : Pos} {td ty tv : TE}
end
theorem dk_empty {P : Program} {w : World} {H : Hp} (h : Heap) (hb : sysModules < h.objs.size) : ObjOk P w H (h.push { cls:=.type "dict",data:=.dict #[] }) h.objs.size (.dK []):=
  ⟨Nat.zero_le _,beq_eq_false_iff_ne.mpr (Ne.symm (Nat.ne_of_lt hb)),[],.nil,Heap.DictOf.new h⟩
section
variable {X : Cx} {pos : Pos}
end
def tPairs : List (TE × TE) -> St -> Hp -> (List (V × V) -> Hp -> Prop) -> Prop
  | [],_,H,Q=>Q [] H
  | (tk,tv) :: r,σ,H,Q=>tk σ H fun x H1=>tv σ H1 fun y H2=>tPairs r σ H2 fun ps H3=>Q ((x,y) :: ps) H3
abbrev VV : List (V × V) -> List (Value × Value) -> Prop:=Paired fun p q=>RelV p.1 q.1 /\ RelV p.2 q.2
def PPs (X : Cx) (pos : Pos) (keys : List (Option Expr)) (values : List Expr) (trs : List (TE × TE)) : Prop:=
  ∀ (pins : List (Addr × Obj)) (s : Shared) (σ : St) (H : Hp) (Q : List (V × V) -> Hp -> Prop),Inv X pins σ H s -> tPairs trs σ H Q ->
    wpAny (model X.prog X.w) X.A (evalPairs (pairTrees keys values X.env pos)) (fun vs s'=>∃ ps H',Inv X pins σ H' s' /\ VV ps vs /\ Q ps H') X.xe s
theorem pps_nil {X : Cx} {pos : Pos} : PPs X pos [] [] []:=fun pins s σ H Q I h=>pairTrees_nil_walk ⟨[],H,I,.nil,h⟩
theorem pps_cons {X : Cx} {pos : Pos} {k v : Expr} {ks : List (Option Expr)} {vs : List Expr} {tk tv : TE} {trs : List (TE × TE)} (hk : PE X k tk) (hv : PE X v tv) (hr : PPs X pos ks vs trs) :
    PPs X pos (some k :: ks) (v :: vs) ((tk,tv) :: trs):=fun pins s σ H Q I h=>
  pairTrees_cons_walk (thn (hk pins s σ H _ I h) fun u s1 ⟨x,H1,I1,rx,q1⟩=>thn (hv pins s1 σ H1 _ I1 q1) fun w2 s2 ⟨y,H2,I2,ry,q2⟩=>
    thn (hr pins s2 σ H2 _ I2 q2) fun ws s3 ⟨ps,H3,I3,rel,q3⟩=>⟨(x,y) :: ps,H3,I3,.cons ⟨rx,ry⟩ rel,q3⟩)
def mergeK (kvs more : List (Key × V)) : List (Key × V):=more.foldl (fun acc kv=>putK acc kv.1 kv.2) kvs
theorem KV.merge : ∀ {more : List (Key × V)} {rs : List (Key × Value)} {kvs : List (Key × V)} {vs : List (Key × Value)},KV more rs -> KV kvs vs -> KV (mergeK kvs more) (merged vs rs):=by
  intro more rs kvs vs r
  unfold KV at r
  induction r generalizing kvs vs with
  | nil=>intro q; exact q
  | @cons p q ps qs h t ih=>
    intro r0
    have e : KV (putK kvs p.1 p.2) (stored vs q.1 q.2):=by
      have:=r0.put p.1 h.2
      rw [<- h.1]; exact this
    exact ih e
theorem length_mergeK : ∀ (more kvs : List (Key × V)),(mergeK kvs more).length <= kvs.length + more.length
  | [],kvs=>by show kvs.length <= kvs.length + 0; omega
  | p :: r,kvs=>by
    have h1:=length_mergeK r (putK kvs p.1 p.2)
    have h2:=length_putK kvs p.1 p.2
    show (mergeK (putK kvs p.1 p.2) r).length <= _
    rw [List.length_cons]; omega
theorem carries_of {P : Program} {w : World} : ∀ {kvs : List (Key × V)} {ws : List (Value × Value)},VV (kvs.map fun kv=>(kV kv.1,kv.2)) ws -> ∃ rs,Carries (mixKind P w) ws rs /\ KV kvs rs
  | [],_,r=>by rw [List.map_nil] at r; cases r; exact ⟨[],True.intro,.nil⟩
  | p :: kvs,_,r=>by
    rw [List.map_cons] at r
    cases r with
    | @cons a b as bs h t=>
      obtain ⟨rs,c,q⟩:=carries_of (P:=P) (w:=w) t
      obtain ⟨b1,b2⟩:=b
      exact ⟨(p.1,b2) :: rs,⟨kV_is h.1,rfl,c⟩,.cons ⟨rfl,h.2⟩ q⟩
def tDisp (trs : List (TE × TE)) : TE:=fun σ H Q=>∀ p,H p = none -> tPairs trs σ (upd H p (.dK [])) fun ps H2=>H2 p = some (.dK []) /\ ∃ kvs : List (Key × V),ps = kvs.map (fun kv=>(kV kv.1,kv.2)) /\ kvs.length <= 15 /\ Q (.ref p) (upd H2 p (.dK (mergeK [] kvs)))
theorem pe_disp {X : Cx} {pos : Pos} {keys : List (Option Expr)} {values : List Expr} {trs : List (TE × TE)} (h : PPs X pos keys values trs) (hall : keys.all (·.isSome) = true) (hl : keys.length = values.length) (h0 : keys ≠ [])
    (h15 : keys.length <= 15) : PE X (.Dict keys values pos) (tDisp trs):=by
  intro pins s σ H Q I q
  have hn:=I.hok.fresh (Nat.le_refl s.heap.objs.size)
  have I1:=I.laid (a:=s.heap.objs.size) (o:=.dK []) (h':=s.heap.push { cls:=.type "dict",data:=.dict #[] }) (t':=s.toks) (fun _ _ q=>Heap.get?_push_of_some _ q) (Nat.le_refl _) (dk_empty s.heap I.big)
  refine wpAny_Dict_walk (knd:=mixKind X.prog X.w) hall hl h0 h15 (thn (h pins _ σ _ _ I1 (q _ hn)) fun ws s2 ⟨ps,H2,I2,rel,e,kvs,ep,lk,q2⟩=>?_)
  subst ep
  obtain ⟨rs,c,rk⟩:=carries_of (P:=X.prog) (w:=X.w) rel
  obtain ⟨z,hd,vs0,r0,dd⟩:=dk_of I2.hok e
  cases r0
  refine ⟨rs,c,dd,fun h' dd' hs=>⟨.ref s.heap.objs.size,_,?_,rfl,q2⟩⟩
  have hz : (mergeK [] kvs).length <= sizeLine:=by
    have h1:=length_mergeK kvs []
    rw [List.length_nil] at h1
    rw [sizeLine_eq]; omega
  have he : ∃ q,h'.get? s.heap.objs.size = some q:=let ⟨q,_,_,hq,_⟩:=dd'; ⟨q,hq⟩
  exact d_write I2 (by rw [e]; exact True.intro) hs he (dk_new hz hd (rk.merge .nil) dd')
structure M2 (X : Cx) (o : Expr) (m : Str) (apos : Pos) (e f : Expr) (cpos : Pos) : Prop where
  base : attributeBase o m X.env (eval o X.env) = eval o X.env
  few : ((backTo cpos (starEach [e,f] X.env)).all (fun x=>!x.1) && (backToKw cpos (keywordEach [] X.env)).all (fun x=>x.1.isSome)
    && decide (([e,f] : List Expr).length + ([] : List Keyword).length + (if ([] : List Keyword).isEmpty then 0 else 1) < 30)) = true
  line : (apos.endLine == cpos.line) = true
  trees : backTo cpos (starEach [e,f] X.env) = [(false,eval e X.env),(false,eval f X.env)]
def IsD (H : Hp) (a : Addr) : Prop:=(∃ kvs,Rd H a (.dK kvs)) \/ ∃ kvs,Rd H a (.dT kvs)
theorem isD_at {X : Cx} {pins : List (Addr × Obj)} {σ : St} {H : Hp} {s : Shared} {a : Addr} (I : Inv X pins σ H s) (d : IsD H a) :
    s.TypeIs (.ref a) "dict" /\ (∀ b,Value.ref a = .ref b -> ∃ ob,s.heap.get? b = some ob /\ ob.dict = none) /\ (a == sysModules) = false:=by
  rcases d with ⟨kvs,e⟩ | ⟨kvs,e⟩
  · obtain ⟨_,hd,vs,_,dd⟩:=dk_rd I.hok e
    refine ⟨dd.typeIs,fun b q=>?_,hd⟩
    cases q
    obtain ⟨ob,_,_,h1,h2,_⟩:=dd
    exact ⟨ob,h1,h2.2.1⟩
  · obtain ⟨_,hd,xs,_,dd⟩:=dt_rd I.hok e
    refine ⟨dd.typeIs,fun b q=>?_,hd⟩
    cases q
    obtain ⟨ob,_,_,h1,h2,_⟩:=dd
    exact ⟨ob,h1,h2.2.1⟩
section
variable {X : Cx} {pins : List (Addr × Obj)} {σ : St} {H : Hp} {s : Shared} {a : Addr} {y d : V} {u r : Value} {o : Option V} {A : Around} {E : Value -> Shared -> Prop}
theorem d_get2 {Q : Value -> Shared -> Prop} (hu : A.units + 1 < cLine) (I : Inv X pins σ H s) (g : DGet H a y o) (ry : RelV y u) (rd : RelV d r) (h : ∀ w' s',Inv X pins σ H s' -> RelV (o.getD d) w' -> Q w' s') :
    wpAny (model X.prog X.w) A (call (.builtin "dict.get") [.ref a,u,r]) Q E s:=by
  rcases g with ⟨kvs,k,e,ey,l⟩ | ⟨kvs,k,b,e,ey,eb,l⟩
  · subst ey
    obtain ⟨z,hd,vs,rel,dd⟩:=dk_rd I.hok e
    refine call_meetsIn PySem.F.slot_dict_get dd.typeIs PySem.F.entry_dict_get (PySem.F.args_dict_get_3 _ _ _) (meets_dict_get_default (mixKind X.prog X.w) a (kV_is ry) hd r) ⟨_,dd.mapOf,h _ _ (I.tok _) ?_⟩
    rw [l]
    exact (rel.val k).getD rd
  · subst ey
    cases (show u = Value.ref b from ry)
    obtain ⟨z,hd,xs,rel,dd⟩:=dt_rd I.hok e
    refine call_meetsIn PySem.F.slot_dict_get dd.typeIs PySem.F.entry_dict_get (PySem.F.args_dict_get_3 _ _ _) (meetsH_dict_get_default (tupleKind (mixKind X.prog X.w)) a b hd r) ⟨tupleKind_room_in1 hu,k,xs,key_of I.hok eb,dd,h _ _ (I.tok _) ?_⟩
    rw [l]
    exact (rel.val k).getD rd
end
def tDGet2 (td ty tx : TE) : TE:=fun σ H Q=>td σ H fun x H1=>∃ a,x = .ref a /\ IsD H1 a /\ ty σ H1 fun y H2=>tx σ H2 fun z H3=>∃ o,DGet H3 a y o /\ Q (o.getD z) H3
section
variable {X : Cx} {o e f : Expr} {apos cpos : Pos} {td ty tx : TE}
theorem pe_dget2 (hu : X.A.units + 1 < cLine) (ho : PE X o td) (he : PE X e ty) (hf : PE X f tx) (m : M2 X o "get" apos e f cpos) : PE X (.Call (.Attribute o "get" apos) [e,f] [] cpos) (tDGet2 td ty tx):=by
  intro pins s σ H Q I h
  refine wpAny_Call_method m.base m.few m.line PySem.F.plainAttrs_dict PySem.F.slot_dict_get PySem.F.type_dict_get (thn (ho pins s σ H _ I h) fun u s1 ⟨x,H1,I1,rx,a,ex,d,q1⟩=>?_)
  subst ex
  obtain rfl : u = Value.ref a:=rx
  obtain ⟨t1,t2,_⟩:=isD_at I1 d
  refine ⟨t1,t2,?_⟩
  rw [m.trees]
  refine Calls.callWith_builtin rfl (Calls.evalArgs_plain (Calls.spliced_cons (thn (he pins s1 σ H1 _ I1 q1) fun iv s2 ⟨y,H2,I2,ry,q2⟩=>
    Calls.spliced_cons (thn (hf pins s2 σ H2 _ I2 q2) fun fv s3 ⟨z,H3,I3,rz,ov,g,q3⟩=>Calls.spliced_nil ?_))))
  exact d_get2 hu I3 g ry rz fun w' s4 I4 rw'=>⟨_,H3,I4,rw',q3⟩
end
section
variable {X : Cx} {pins : List (Addr × Obj)} {σ : St} {H : Hp} {s : Shared} {a : Addr} {kvs : List (Key × V)} {A : Around} {E : Value -> Shared -> Prop}
end
section
variable {X : Cx} {pins : List (Addr × Obj)} {σ : St} {H : Hp} {s : Shared} {a : Addr} {y : V} {u : Value} {A : Around} {E : Value -> Shared -> Prop}
end
section
variable {X : Cx}
end
end L2
namespace L2
open PySem PySem.Spec PyProof.Rows
open AutoSeq1 (wpAny_loadPart')
section
variable {prog : Program} {w : World} {A : Around} {E : Value -> Shared -> Prop} {s : Shared}
end
section
variable {prog : Program} {w : World} {A : Around} {E : Value -> Shared -> Prop} {s : Shared}
end
section
variable {X : Cx} {a : Expr} {ta : TA} {p p' pos pos' : Pos}
end
end L2
namespace L2
open PySem PySem.Spec PyProof.Rows
section
variable {prog : Program} {w : World} {A : Around} {E : Value -> Shared -> Prop} {s : Shared}
end
section
variable {X : Cx} {e e3 : Expr} {te t3 : TE} {pos p2 : Pos}
end
end L2
namespace Sm
open PySem PySem.Spec L2
inductive PV where
  | non | bl (b : Bool) | int (i : Int) | str (x : Str) | tup (xs : List PV) | lst (xs : List PV) | fro (xs : List PV) | ref (i : Nat) | dic
inductive Cell where
  | lst (xs : List PV) | dic (kvs : List (Key × PV)) | dtp (kvs : List (List Key × PV))
abbrev Store:=List Cell
structure Exc where
  cls : Str
  fs : Option (Str × PV):=none
inductive Res (α : Type) where
  | ok (a : α) (st : Store) | exc (x : Exc) (st : Store) | stuck
abbrev Gam:=List (Option PV)
abbrev ME:=Gam -> Store -> Res PV
structure Tk where
  tr : List Addr
  hid : List Addr
instance : Membership Addr Tk:=⟨fun t a=>a ∈ t.tr \/ a ∈ t.hid⟩
def Tk.nil : Tk:=⟨[],[]⟩
theorem Tk.not_nil (a : Addr) : a ∉ Tk.nil:=fun z=>by rcases z with z | z <;> cases z
def Tk.add (t : Tk) (p : Addr) : Tk:=⟨t.tr ++ [p],t.hid⟩
def Tk.hide (t : Tk) (p : Addr) : Tk:=⟨t.tr,p :: t.hid⟩
mutual
def Rep (H : Hp) (ρ : Tk) : PV -> V -> Prop
  | .non,v=>v = .non
  | .bl b,v=>v = .bl b
  | .int i,v=>v = .int i
  | .str x,v=>v = .str x
  | .tup ps,v=>∃ a vs,v = .ref a /\ H a = some (.tup vs) /\ a ∉ ρ /\ RepL H ρ ps vs
  | .lst ps,v=>∃ a vs,v = .ref a /\ H a = some (.lst vs) /\ a ∉ ρ /\ RepL H ρ ps vs
  | .fro ps,v=>∃ a vs,v = .ref a /\ Rd H a (.lst vs) /\ a ∉ ρ /\ RepL H ρ ps vs
  | .ref i,v=>∃ a,ρ.tr[i]? = some a /\ v = .ref a
  | .dic,v=>∃ a,v = .ref a /\ H a = some (.dK []) /\ a ∉ ρ
def RepL (H : Hp) (ρ : Tk) : List PV -> List V -> Prop
  | [],vs=>vs = []
  | p :: ps,vs=>∃ v r,vs = v :: r /\ Rep H ρ p v /\ RepL H ρ ps r
end
structure Ext (H : Hp) (ρ : Tk) (H' : Hp) (ρ' : Tk) : Prop where
  pre : ρ.tr <+: ρ'.tr
  hidM : ∀ a,a ∈ ρ.hid -> a ∈ ρ'.hid
  hidN : ∀ a,a ∈ ρ'.hid -> a ∈ ρ.hid \/ H a = none
  keep : ∀ a o,H a = some o -> a ∉ ρ.tr -> H' a = some o
  new : ∀ a,a ∈ ρ'.tr -> a ∈ ρ.tr \/ H a = none
  old : ∀ a o,H a = some o -> ∃ o',H' a = some o'
theorem Ext.refl (H : Hp) (ρ : Tk) : Ext H ρ H ρ:=⟨List.prefix_refl _,fun _ h=>h,fun _ h=>.inl h,fun _ _ h _=>h,fun _ h=>.inl h,fun _ o h=>⟨o,h⟩⟩
theorem Ext.trans {H H1 H2 : Hp} {ρ ρ1 ρ2 : Tk} (a : Ext H ρ H1 ρ1) (b : Ext H1 ρ1 H2 ρ2) : Ext H ρ H2 ρ2 where
  pre:=a.pre.trans b.pre
  hidM:=fun x h=>b.hidM x (a.hidM x h)
  hidN:=fun x h=>by
    rcases b.hidN x h with z | z
    · exact a.hidN x z
    · right
      cases q : H x with
      | none=>rfl
      | some o=>
        obtain ⟨o',e⟩:=a.old x o q
        rw [e] at z; cases z
  keep:=fun x o h n=>b.keep x o (a.keep x o h n) fun z=>by
    rcases a.new x z with z | z
    · exact n z
    · rw [h] at z; cases z
  new:=fun x h=>by
    rcases b.new x h with z | z
    · exact a.new x z
    · right
      cases q : H x with
      | none=>rfl
      | some o=>
        obtain ⟨o',e⟩:=a.old x o q
        rw [e] at z; cases z
  old:=fun x o h=>by
    obtain ⟨o',e⟩:=a.old x o h
    exact b.old x o' e
theorem Ext.add {H : Hp} {ρ : Tk} {p : Addr} {o : HO} (h : H p = none) : Ext H ρ (upd H p o) ρ where
  pre:=List.prefix_refl _
  hidM:=fun _ h=>h
  hidN:=fun _ h=>.inl h
  keep:=fun a u e _=>by rw [upd_ne (ne_of_none e h)]; exact e
  new:=fun a e=>.inl e
  old:=fun a u e=>⟨u,by rw [upd_ne (ne_of_none e h)]; exact e⟩
theorem Ext.same {H H' : Hp} {ρ : Tk} (h : Same H H') : Ext H ρ H' ρ:=⟨List.prefix_refl _,fun _ h=>h,fun _ h=>.inl h,fun a o e _=>h a o e,fun _ e=>.inl e,fun a o e=>⟨o,h a o e⟩⟩
section
variable {H H' : Hp} {ρ ρ' : Tk}
theorem fresh_not {a : Addr} {o : HO} (x : Ext H ρ H' ρ') (h : H a = some o) (n : a ∉ ρ) : a ∉ ρ':=fun z=>by
  rcases z with z | z
  · rcases x.new a z with z | z
    · exact n (.inl z)
    · rw [h] at z; cases z
  · rcases x.hidN a z with z | z
    · exact n (.inr z)
    · rw [h] at z; cases z
theorem Ext.kp {a : Addr} {o : HO} (x : Ext H ρ H' ρ') (h : H a = some o) (n : a ∉ ρ) : H' a = some o:=x.keep a o h fun z=>n (.inl z)
mutual
theorem Rep.ext (x : Ext H ρ H' ρ') : ∀ {p : PV} {v : V},Rep H ρ p v -> Rep H' ρ' p v
  | .non,_,h=>h
  | .bl _,_,h=>h
  | .int _,_,h=>h
  | .str _,_,h=>h
  | .tup ps,v,h=>by
    obtain ⟨a,vs,e,s,n,r⟩:=h
    exact ⟨a,vs,e,x.kp s n,fresh_not x s n,RepL.ext x r⟩
  | .lst ps,v,h=>by
    obtain ⟨a,vs,e,s,n,r⟩:=h
    exact ⟨a,vs,e,x.kp s n,fresh_not x s n,RepL.ext x r⟩
  | .fro ps,v,h=>by
    obtain ⟨a,vs,e,s,n,r⟩:=h
    rcases s with s | ⟨o,s⟩
    · exact ⟨a,vs,e,.inl (x.kp s n),fresh_not x s n,RepL.ext x r⟩
    · exact ⟨a,vs,e,.inr ⟨o,x.kp s n⟩,fresh_not x s n,RepL.ext x r⟩
  | .ref i,v,h=>by
    obtain ⟨a,e,rfl⟩:=h
    obtain ⟨t,et⟩:=x.pre
    refine ⟨a,?_,rfl⟩
    rw [<- et,List.getElem?_append_left (List.getElem?_eq_some_iff.mp e).1]
    exact e
  | .dic,v,h=>by
    obtain ⟨a,e,s,n⟩:=h
    exact ⟨a,e,x.kp s n,fresh_not x s n⟩
theorem RepL.ext (x : Ext H ρ H' ρ') : ∀ {ps : List PV} {vs : List V},RepL H ρ ps vs -> RepL H' ρ' ps vs
  | [],_,h=>h
  | p :: ps,vs,h=>by
    obtain ⟨v,r,e,h1,h2⟩:=h
    exact ⟨v,r,e,Rep.ext x h1,RepL.ext x h2⟩
end
mutual
theorem Rep.hide {a : Addr} {o : HO} (h : H a = none) : ∀ {p : PV} {v : V},Rep H ρ p v -> Rep (upd H a o) (ρ.hide a) p v
  | .non,_,r=>r
  | .bl _,_,r=>r
  | .int _,_,r=>r
  | .str _,_,r=>r
  | .tup ps,v,⟨b,vs,e,s,n,r⟩=>⟨b,vs,e,by rw [upd_ne (ne_of_none s h)]; exact s,fun z=>by
      rcases z with z | z
      · exact n (.inl z)
      · rcases List.mem_cons.mp z with z | z
        · exact ne_of_none s h z
        · exact n (.inr z),RepL.hide h r⟩
  | .lst ps,v,⟨b,vs,e,s,n,r⟩=>⟨b,vs,e,by rw [upd_ne (ne_of_none s h)]; exact s,fun z=>by
      rcases z with z | z
      · exact n (.inl z)
      · rcases List.mem_cons.mp z with z | z
        · exact ne_of_none s h z
        · exact n (.inr z),RepL.hide h r⟩
  | .fro ps,v,⟨b,vs,e,s,n,r⟩=>by
      have ne : b ≠ a:=by
        rcases s with s | ⟨_,s⟩
        · exact ne_of_none s h
        · exact ne_of_none s h
      refine ⟨b,vs,e,?_,fun z=>?_,RepL.hide h r⟩
      · rcases s with s | ⟨u,s⟩
        · exact .inl (by rw [upd_ne ne]; exact s)
        · exact .inr ⟨u,by rw [upd_ne ne]; exact s⟩
      · rcases z with z | z
        · exact n (.inl z)
        · rcases List.mem_cons.mp z with z | z
          · exact ne z
          · exact n (.inr z)
  | .ref i,v,r=>r
  | .dic,v,⟨b,e,s,n⟩=>⟨b,e,by rw [upd_ne (ne_of_none s h)]; exact s,fun z=>by
      rcases z with z | z
      · exact n (.inl z)
      · rcases List.mem_cons.mp z with z | z
        · exact ne_of_none s h z
        · exact n (.inr z)⟩
theorem RepL.hide {a : Addr} {o : HO} (h : H a = none) : ∀ {ps : List PV} {vs : List V},RepL H ρ ps vs -> RepL (upd H a o) (ρ.hide a) ps vs
  | [],_,r=>r
  | p :: ps,_,⟨v,t,e,r1,r2⟩=>⟨v,t,e,Rep.hide h r1,RepL.hide h r2⟩
end
mutual
theorem Rep.rehide {a : Addr} {o : HO} (h : a ∈ ρ.hid) : ∀ {p : PV} {v : V},Rep H ρ p v -> Rep (upd H a o) ρ p v
  | .non,_,r=>r
  | .bl _,_,r=>r
  | .int _,_,r=>r
  | .str _,_,r=>r
  | .tup ps,v,⟨b,vs,e,s,n,r⟩=>⟨b,vs,e,by rw [upd_ne (show b ≠ a from fun z=>n (.inr (by rw [z]; exact h)))]; exact s,n,RepL.rehide h r⟩
  | .lst ps,v,⟨b,vs,e,s,n,r⟩=>⟨b,vs,e,by rw [upd_ne (show b ≠ a from fun z=>n (.inr (by rw [z]; exact h)))]; exact s,n,RepL.rehide h r⟩
  | .fro ps,v,⟨b,vs,e,s,n,r⟩=>by
      have ne : b ≠ a:=fun z=>n (.inr (by rw [z]; exact h))
      refine ⟨b,vs,e,?_,n,RepL.rehide h r⟩
      rcases s with s | ⟨u,s⟩
      · exact .inl (by rw [upd_ne ne]; exact s)
      · exact .inr ⟨u,by rw [upd_ne ne]; exact s⟩
  | .ref i,v,r=>r
  | .dic,v,⟨b,e,s,n⟩=>⟨b,e,by rw [upd_ne (show b ≠ a from fun z=>n (.inr (by rw [z]; exact h)))]; exact s,n⟩
theorem RepL.rehide {a : Addr} {o : HO} (h : a ∈ ρ.hid) : ∀ {ps : List PV} {vs : List V},RepL H ρ ps vs -> RepL (upd H a o) ρ ps vs
  | [],_,r=>r
  | p :: ps,_,⟨v,t,e,r1,r2⟩=>⟨v,t,e,Rep.rehide h r1,RepL.rehide h r2⟩
end
mutual
theorem Rep.unhide {hs : List Addr} (hh : ∀ a,a ∈ hs -> a ∈ ρ.hid) : ∀ {p : PV} {v : V},Rep H ρ p v -> Rep H ⟨ρ.tr,hs⟩ p v
  | .non,_,r=>r
  | .bl _,_,r=>r
  | .int _,_,r=>r
  | .str _,_,r=>r
  | .tup ps,v,⟨b,vs,e,s,n,r⟩=>⟨b,vs,e,s,fun z=>n (z.imp id (hh _)),RepL.unhide hh r⟩
  | .lst ps,v,⟨b,vs,e,s,n,r⟩=>⟨b,vs,e,s,fun z=>n (z.imp id (hh _)),RepL.unhide hh r⟩
  | .fro ps,v,⟨b,vs,e,s,n,r⟩=>⟨b,vs,e,s,fun z=>n (z.imp id (hh _)),RepL.unhide hh r⟩
  | .ref i,v,r=>r
  | .dic,v,⟨b,e,s,n⟩=>⟨b,e,s,fun z=>n (z.imp id (hh _))⟩
theorem RepL.unhide {hs : List Addr} (hh : ∀ a,a ∈ hs -> a ∈ ρ.hid) : ∀ {ps : List PV} {vs : List V},RepL H ρ ps vs -> RepL H ⟨ρ.tr,hs⟩ ps vs
  | [],_,r=>r
  | p :: ps,_,⟨v,t,e,r1,r2⟩=>⟨v,t,e,Rep.unhide hh r1,RepL.unhide hh r2⟩
end
theorem RepL.length : ∀ {ps : List PV} {vs : List V},RepL H ρ ps vs -> ps.length = vs.length
  | [],_,h=>by cases h; rfl
  | p :: ps,_,⟨v,r,rfl,_,h2⟩=>by rw [List.length_cons,List.length_cons,RepL.length h2]
theorem RepL.get : ∀ {ps : List PV} {vs : List V} {i : Nat} {p : PV},RepL H ρ ps vs -> ps[i]? = some p -> ∃ v,vs[i]? = some v /\ Rep H ρ p v
  | [],_,_,_,_,e=>by simp at e
  | p :: ps,_,0,q,⟨v,r,rfl,h1,h2⟩,e=>by simp at e; subst e; exact ⟨v,rfl,h1⟩
  | p :: ps,_,i + 1,q,⟨v,r,rfl,h1,h2⟩,e=>by
    obtain ⟨u,e1,e2⟩:=RepL.get (i:=i) h2 (by simpa using e)
    exact ⟨u,by simpa using e1,e2⟩
theorem RepL.cons {p : PV} {v : V} {ps : List PV} {vs : List V} (h : Rep H ρ p v) (r : RepL H ρ ps vs) : RepL H ρ (p :: ps) (v :: vs):=⟨v,vs,rfl,h,r⟩
theorem RepL.nil : RepL H ρ [] []:=rfl
theorem RepL.append : ∀ {ps qs : List PV} {vs us : List V},RepL H ρ ps vs -> RepL H ρ qs us -> RepL H ρ (ps ++ qs) (vs ++ us)
  | [],_,_,_,h,g=>by cases h; exact g
  | p :: ps,_,_,_,⟨v,r,rfl,h1,h2⟩,g=>⟨v,_,rfl,h1,RepL.append h2 g⟩
theorem RepL.take : ∀ {ps : List PV} {vs : List V} (n : Nat),RepL H ρ ps vs -> RepL H ρ (ps.take n) (vs.take n)
  | _,_,0,_=>rfl
  | [],_,n + 1,h=>by cases h; rfl
  | p :: ps,_,n + 1,⟨v,r,rfl,h1,h2⟩=>⟨v,_,rfl,h1,RepL.take n h2⟩
theorem RepL.drop : ∀ {ps : List PV} {vs : List V} (n : Nat),RepL H ρ ps vs -> RepL H ρ (ps.drop n) (vs.drop n)
  | _,_,0,h=>h
  | [],_,n + 1,h=>by cases h; rfl
  | p :: ps,_,n + 1,⟨v,r,rfl,h1,h2⟩=>RepL.drop n h2
theorem RepL.set {p : PV} {v : V} (h : Rep H ρ p v) : ∀ {ps : List PV} {vs : List V} (i : Nat),RepL H ρ ps vs -> RepL H ρ (ps.set i p) (vs.set i v)
  | [],_,_,g=>by cases g; rfl
  | q :: ps,_,0,⟨u,r,rfl,h1,h2⟩=>⟨v,r,rfl,h,h2⟩
  | q :: ps,_,i + 1,⟨u,r,rfl,h1,h2⟩=>⟨u,_,rfl,h1,RepL.set h i h2⟩
theorem RepL.rep {ps : List PV} {vs : List V} (h : RepL H ρ ps vs) : ∀ n,RepL H ρ (List.replicate n ps).flatten (List.replicate n vs).flatten
  | 0=>rfl
  | n + 1=>by rw [List.replicate_succ,List.replicate_succ,List.flatten_cons,List.flatten_cons]; exact h.append (RepL.rep h n)
theorem RepL.toInts : ∀ {ns : List Int} {vs : List V},RepL H ρ (ns.map .int) vs -> vs = ns.map V.int
  | [],_,h=>h
  | n :: ns,_,⟨v,r,rfl,h1,h2⟩=>by
    have e : v = V.int n:=h1
    rw [RepL.toInts h2,e]; rfl
theorem RepL.toBls : ∀ {ns : List Bool} {vs : List V},RepL H ρ (ns.map .bl) vs -> vs = ns.map V.bl
  | [],_,h=>h
  | n :: ns,_,⟨v,r,rfl,h1,h2⟩=>by
    have e : v = V.bl n:=h1
    rw [RepL.toBls h2,e]; rfl
end
def RepD {κ : Type} (H : Hp) (ρ : Tk) (kvs : List (κ × PV)) (vs : List (κ × V)) : Prop:=vs.map Prod.fst = kvs.map Prod.fst /\ RepL H ρ (kvs.map Prod.snd) (vs.map Prod.snd)
theorem RepD.ext {κ : Type} {H H' : Hp} {ρ ρ' : Tk} {kvs : List (κ × PV)} {vs : List (κ × V)} (x : Ext H ρ H' ρ') (r : RepD H ρ kvs vs) : RepD H' ρ' kvs vs:=⟨r.1,r.2.ext x⟩
theorem RepD.length {κ : Type} {H : Hp} {ρ : Tk} {kvs : List (κ × PV)} {vs : List (κ × V)} (r : RepD H ρ kvs vs) : kvs.length = vs.length:=by
  have:=congrArg List.length r.1
  rw [List.length_map,List.length_map] at this
  exact this.symm
def CellR (H : Hp) (ρ : Tk) (a : Addr) : Cell -> Prop
  | .lst ps=>∃ vs,H a = some (.lst vs) /\ RepL H ρ ps vs
  | .dic kvs=>∃ vs,H a = some (.dK vs) /\ RepD H ρ kvs vs
  | .dtp kvs=>∃ vs,H a = some (.dT vs) /\ RepD H ρ kvs vs
theorem CellR.dom {H : Hp} {ρ : Tk} {a : Addr} : ∀ {c : Cell},CellR H ρ a c -> ∃ o,H a = some o
  | .lst _,⟨_,e,_⟩=>⟨_,e⟩
  | .dic _,⟨_,e,_⟩=>⟨_,e⟩
  | .dtp _,⟨_,e,_⟩=>⟨_,e⟩
theorem CellR.ext {H H' : Hp} {ρ ρ' : Tk} {a : Addr} (x : Ext H ρ H' ρ') (k : ∀ o,H a = some o -> H' a = some o) : ∀ {c : Cell},CellR H ρ a c -> CellR H' ρ' a c
  | .lst _,⟨vs,e,r⟩=>⟨vs,k _ e,r.ext x⟩
  | .dic _,⟨vs,e,r⟩=>⟨vs,k _ e,r.ext x⟩
  | .dtp _,⟨vs,e,r⟩=>⟨vs,k _ e,r.ext x⟩
structure Rel (H : Hp) (ρ : Tk) (st : Store) : Prop where
  len : ρ.tr.length = st.length
  nd : ρ.tr.Nodup
  hd : ∀ a ∈ ρ.hid,∃ o,H a = some o
  ap : ∀ a ∈ ρ.hid,a ∉ ρ.tr
  cell : ∀ (i : Nat) (a : Addr) (c : Cell),ρ.tr[i]? = some a -> st[i]? = some c -> CellR H ρ a c
section
variable {H H' : Hp} {ρ ρ' : Tk} {st st' : Store}
theorem Rel.lst (R : Rel H ρ st) {i : Nat} {ps : List PV} (h : st[i]? = some (.lst ps)) : ∃ a vs,ρ.tr[i]? = some a /\ H a = some (.lst vs) /\ RepL H ρ ps vs:=by
  have hi : i < ρ.tr.length:=by rw [R.len]; exact (List.getElem?_eq_some_iff.mp h).1
  have e : ρ.tr[i]? = some ρ.tr[i]:=List.getElem?_eq_getElem hi
  obtain ⟨vs,e1,e2⟩:=R.cell i _ _ e h
  exact ⟨_,vs,e,e1,e2⟩
theorem Rel.dic (R : Rel H ρ st) {i : Nat} {kvs : List (Key × PV)} (h : st[i]? = some (.dic kvs)) : ∃ a vs,ρ.tr[i]? = some a /\ H a = some (.dK vs) /\ RepD H ρ kvs vs:=by
  have hi : i < ρ.tr.length:=by rw [R.len]; exact (List.getElem?_eq_some_iff.mp h).1
  have e : ρ.tr[i]? = some ρ.tr[i]:=List.getElem?_eq_getElem hi
  obtain ⟨vs,e1,e2⟩:=R.cell i _ _ e h
  exact ⟨_,vs,e,e1,e2⟩
theorem Rel.dom (R : Rel H ρ st) {a : Addr} (h : a ∈ ρ.tr) : ∃ o,H a = some o:=by
  obtain ⟨i,hi,e⟩:=List.getElem_of_mem h
  have hs : i < st.length:=by rw [<- R.len]; exact hi
  have q:=R.cell i a st[i] (by rw [List.getElem?_eq_getElem hi,e]) (List.getElem?_eq_getElem hs)
  exact q.dom
theorem Rel.fresh (R : Rel H ρ st) {p : Addr} (h : H p = none) : p ∉ ρ:=fun z=>by
  rcases z with z | z
  · obtain ⟨vs,q⟩:=R.dom z
    rw [h] at q; cases q
  · obtain ⟨o,q⟩:=R.hd p z
    rw [h] at q; cases q
theorem Rel.later (R : Rel H ρ st) (x : Ext H ρ H' ρ) (k : ∀ a o,a ∈ ρ.tr -> H a = some o -> H' a = some o) : Rel H' ρ st where
  len:=R.len
  nd:=R.nd
  hd:=fun a ha=>let ⟨o,e⟩:=R.hd a ha; x.old a o e
  ap:=R.ap
  cell:=fun i a c h1 h2=>by
    exact (R.cell i a c h1 h2).ext x fun o e=>k a o (List.mem_of_getElem? h1) e
end
theorem Rel.add {H : Hp} {ρ : Tk} {st : Store} (R : Rel H ρ st) {p : Addr} {o : HO} (h : H p = none) : Rel (upd H p o) ρ st:=
  R.later (Ext.add h) fun a u hm e=>by rw [upd_ne (ne_of_none e h)]; exact e
theorem Rel.same {H H' : Hp} {ρ : Tk} {st : Store} (R : Rel H ρ st) (h : Same H H') : Rel H' ρ st:=R.later (Ext.same h) fun a u _ e=>h a u e
theorem nodup_inj {α : Type} {l : List α} (h : l.Nodup) {i j : Nat} (hi : i < l.length) (hj : j < l.length) (e : l[i] = l[j]) : i = j:=by
  rcases Nat.lt_trichotomy i j with z | z | z
  · exact absurd e ((List.pairwise_iff_getElem.mp h) i j hi hj z)
  · exact z
  · exact absurd e.symm ((List.pairwise_iff_getElem.mp h) j i hj hi z)
theorem Ext.put {H : Hp} {ρ : Tk} {a : Addr} {o o' : HO} (h : a ∈ ρ.tr) (e : H a = some o) : Ext H ρ (upd H a o') ρ where
  pre:=List.prefix_refl _
  hidM:=fun _ h=>h
  hidN:=fun _ h=>.inl h
  keep:=fun b u q n=>by rw [upd_ne (show b ≠ a from fun z=>n (by rw [z]; exact h))]; exact q
  new:=fun b q=>.inl q
  old:=fun b u q=>by
    by_cases z : b = a
    · exact ⟨o',by rw [z]; exact upd_same⟩
    · exact ⟨u,by rw [upd_ne z]; exact q⟩
theorem Rel.putC {H : Hp} {ρ : Tk} {st : Store} (R : Rel H ρ st) {i : Nat} {a : Addr} {cl : Cell} {o o' : HO} (hi : ρ.tr[i]? = some a) (e : H a = some o) (r : CellR (upd H a o') ρ a cl) : Rel (upd H a o') ρ (st.set i cl) where
  len:=by rw [List.length_set]; exact R.len
  nd:=R.nd
  hd:=fun b hb=>let ⟨u,q⟩:=R.hd b hb; ⟨u,by rw [upd_ne (show b ≠ a from fun z=>R.ap b hb (by rw [z]; exact List.mem_of_getElem? hi))]; exact q⟩
  ap:=R.ap
  cell:=fun j b c h1 h2=>by
    have x:=Ext.put (o':=o') (List.mem_of_getElem? hi) e
    by_cases hj : i = j
    · subst hj
      rw [hi] at h1; cases h1
      rw [List.getElem?_set_self (by rw [<- R.len]; exact (List.getElem?_eq_some_iff.mp hi).1)] at h2
      cases h2
      exact r
    · rw [List.getElem?_set_ne hj] at h2
      have q:=R.cell j b c h1 h2
      have hb : b ≠ a:=fun z=>by
        subst z
        have l1:=(List.getElem?_eq_some_iff.mp hi)
        have l2:=(List.getElem?_eq_some_iff.mp h1)
        exact hj (nodup_inj R.nd l1.1 l2.1 (l1.2.trans l2.2.symm))
      exact q.ext x fun u e1=>by rw [upd_ne hb]; exact e1
theorem Rel.put {H : Hp} {ρ : Tk} {st : Store} (R : Rel H ρ st) {i : Nat} {a : Addr} {ps : List PV} {vs : List V} {o : HO} (hi : ρ.tr[i]? = some a) (e : H a = some o) (r : RepL H ρ ps vs) : Rel (upd H a (.lst vs)) ρ (st.set i (.lst ps)):=
  R.putC hi e ⟨vs,upd_same,r.ext (Ext.put (List.mem_of_getElem? hi) e)⟩
theorem Rel.hide {H : Hp} {ρ : Tk} {st : Store} (R : Rel H ρ st) {p : Addr} {o : HO} (h : H p = none) : Rel (upd H p o) (ρ.hide p) st:=by
  have x : Ext H ρ (upd H p o) ρ:=Ext.add h
  have R':=R.add (p:=p) (o:=o) h
  refine ⟨R'.len,R'.nd,fun a ha=>?_,fun a ha z=>?_,fun i a c h1 h2=>?_⟩
  · rcases List.mem_cons.mp ha with rfl | ha
    · exact ⟨o,upd_same⟩
    · exact R'.hd a ha
  · rcases List.mem_cons.mp ha with rfl | ha
    · exact R.fresh h (.inl z)
    · exact R.ap a ha z
  · have q:=R.cell i a c h1 h2
    cases c with
    | lst ps=>
      obtain ⟨vs,e1,e2⟩:=q
      exact ⟨vs,by rw [upd_ne (ne_of_none e1 h)]; exact e1,e2.hide h⟩
    | dic ps=>
      obtain ⟨vs,e1,e2⟩:=q
      exact ⟨vs,by rw [upd_ne (ne_of_none e1 h)]; exact e1,e2.1,e2.2.hide h⟩
    | dtp ps=>
      obtain ⟨vs,e1,e2⟩:=q
      exact ⟨vs,by rw [upd_ne (ne_of_none e1 h)]; exact e1,e2.1,e2.2.hide h⟩
theorem Rel.rehide {H : Hp} {ρ : Tk} {st : Store} (R : Rel H ρ st) {p : Addr} {o : HO} (h : p ∈ ρ.hid) : Rel (upd H p o) ρ st:=by
  refine ⟨R.len,R.nd,fun a ha=>?_,R.ap,fun i a c h1 h2=>?_⟩
  · by_cases e : a = p
    · exact ⟨o,by rw [e]; exact upd_same⟩
    · obtain ⟨u,q⟩:=R.hd a ha
      exact ⟨u,by rw [upd_ne e]; exact q⟩
  · have q:=R.cell i a c h1 h2
    have ne : a ≠ p:=fun z=>R.ap p h (by rw [<- z]; exact List.mem_of_getElem? h1)
    cases c with
    | lst ps=>
      obtain ⟨vs,e1,e2⟩:=q
      exact ⟨vs,by rw [upd_ne ne]; exact e1,e2.rehide h⟩
    | dic ps=>
      obtain ⟨vs,e1,e2⟩:=q
      exact ⟨vs,by rw [upd_ne ne]; exact e1,e2.1,e2.2.rehide h⟩
    | dtp ps=>
      obtain ⟨vs,e1,e2⟩:=q
      exact ⟨vs,by rw [upd_ne ne]; exact e1,e2.1,e2.2.rehide h⟩
theorem Rel.unhide {H : Hp} {ρ : Tk} {st : Store} {hs : List Addr} (hh : ∀ a,a ∈ hs -> a ∈ ρ.hid) (R : Rel H ρ st) : Rel H ⟨ρ.tr,hs⟩ st:=by
  refine ⟨R.len,R.nd,fun a ha=>R.hd a (hh a ha),fun a ha=>R.ap a (hh a ha),fun i a c h1 h2=>?_⟩
  have q:=R.cell i a c h1 h2
  cases c with
  | lst ps=>
    obtain ⟨vs,e1,e2⟩:=q
    exact ⟨vs,e1,RepL.unhide hh e2⟩
  | dic ps=>
    obtain ⟨vs,e1,e2⟩:=q
    exact ⟨vs,e1,e2.1,RepL.unhide hh e2.2⟩
  | dtp ps=>
    obtain ⟨vs,e1,e2⟩:=q
    exact ⟨vs,e1,e2.1,RepL.unhide hh e2.2⟩
theorem Ext.hide {H : Hp} {ρ : Tk} {p : Addr} {o : HO} (h : H p = none) : Ext H ρ (upd H p o) (ρ.hide p) where
  pre:=List.prefix_refl _
  hidM:=fun _ h=>List.mem_cons_of_mem _ h
  hidN:=fun a ha=>by
    rcases List.mem_cons.mp ha with rfl | ha
    · exact .inr h
    · exact .inl ha
  keep:=fun a u e _=>by rw [upd_ne (ne_of_none e h)]; exact e
  new:=fun a e=>.inl e
  old:=fun a u e=>⟨u,by rw [upd_ne (ne_of_none e h)]; exact e⟩
theorem Ext.put0 {H H1 : Hp} {ρ ρ1 : Tk} {p : Addr} {o : HO} (x : Ext H ρ H1 ρ1) (h : H p = none) : Ext H ρ (upd H1 p o) ρ1 where
  pre:=x.pre
  hidM:=x.hidM
  hidN:=x.hidN
  keep:=fun a u e n=>by rw [upd_ne (ne_of_none e h)]; exact x.keep a u e n
  new:=x.new
  old:=fun a u e=>by rw [upd_ne (ne_of_none e h)]; exact x.old a u e
theorem Ext.unhide {H H1 : Hp} {ρ ρ1 : Tk} (x : Ext H ρ H1 ρ1) : Ext H ρ H1 ⟨ρ1.tr,ρ.hid⟩ where
  pre:=x.pre
  hidM:=fun _ h=>h
  hidN:=fun _ h=>.inl h
  keep:=x.keep
  new:=x.new
  old:=x.old
def EnvR (H : Hp) (ρ : Tk) (Γ : Gam) (σ : St) : Prop:=Γ.length = σ.length /\ ∀ (i : Nat) (p : PV),Γ[i]? = some (some p) -> ∃ v,σ[i]? = some (some v) /\ Rep H ρ p v
theorem EnvR.ext {H H' : Hp} {ρ ρ' : Tk} {Γ : Gam} {σ : St} (x : Ext H ρ H' ρ') (h : EnvR H ρ Γ σ) : EnvR H' ρ' Γ σ:=
  ⟨h.1,fun i p e=>let ⟨v,a,b⟩:=h.2 i p e; ⟨v,a,b.ext x⟩⟩
theorem EnvR.hide {H : Hp} {ρ : Tk} {Γ : Gam} {σ : St} {a : Addr} {o : HO} (n : H a = none) (h : EnvR H ρ Γ σ) : EnvR (upd H a o) (ρ.hide a) Γ σ:=⟨h.1,fun i p e=>let ⟨v,a,b⟩:=h.2 i p e; ⟨v,a,b.hide n⟩⟩
theorem EnvR.rehide {H : Hp} {ρ : Tk} {Γ : Gam} {σ : St} {a : Addr} {o : HO} (n : a ∈ ρ.hid) (h : EnvR H ρ Γ σ) : EnvR (upd H a o) ρ Γ σ:=⟨h.1,fun i p e=>let ⟨v,a,b⟩:=h.2 i p e; ⟨v,a,b.rehide n⟩⟩
theorem EnvR.set {H : Hp} {ρ : Tk} {Γ : Gam} {σ : St} {p : PV} {v : V} (h : EnvR H ρ Γ σ) (r : Rep H ρ p v) (i : Nat) : EnvR H ρ (Γ.set i (some p)) (σ.set i (some v)):=by
  refine ⟨by rw [List.length_set,List.length_set]; exact h.1,fun j q e=>?_⟩
  rw [List.getElem?_set] at e
  rw [List.getElem?_set]
  by_cases hj : i = j
  · subst hj
    simp only [if_true] at e ⊢
    by_cases hl : i < Γ.length
    · rw [if_pos hl] at e; cases e
      rw [if_pos (by rw [<- h.1]; exact hl)]
      exact ⟨v,rfl,r⟩
    · rw [if_neg hl] at e; cases e
  · rw [if_neg hj] at e ⊢
    exact h.2 j q e
end Sm
namespace Sm
open PySem PySem.Spec L2
def Res.bind {α β : Type} (r : Res α) (f : α -> Store -> Res β) : Res β:=match r with
  | .ok a st=>f a st
  | .exc x st=>.exc x st
  | .stuck=>.stuck
def okO {α : Type} (st : Store) : Option α -> Res α
  | some a=>.ok a st
  | none=>.stuck
section
variable (X : Cx)
def WE (e : Expr) : TE:=fun σ H Q=>∀ (pins : List (Addr × Obj)) (s : Shared),Inv X pins σ H s -> wpAny (model X.prog X.w) X.A (eval e X.env) (EP X pins σ Q) X.xe s
def WT (e : Expr) : TT:=fun σ H Q=>∀ (pins : List (Addr × Obj)) (s : Shared),Inv X pins σ H s -> wpAny (model X.prog X.w) X.A (isTrue e X.env (eval e X.env)) (TP X pins σ Q) X.xe s
def WW (e : Expr) : TT:=fun σ H Q=>∀ (wh : Sem Value) (pins : List (Addr × Obj)) (s : Shared),Inv X pins σ H s -> wpAny (model X.prog X.w) X.A (isTrue e X.env wh) (TP X pins σ Q) X.xe s
def WA (es : List Expr) : TA:=fun σ H Q=>∀ (pos : Pos) (pins : List (Addr × Obj)) (s : Shared),Inv X pins σ H s -> wpAny (model X.prog X.w) X.A (spliced (backTo pos (starEach es X.env))) (AP X pins σ Q) X.xe s
def WS (st : Stmt) : TS:=fun D σ H=>∀ (pins : List (Addr × Obj)) (s : Shared),Inv X pins σ H s -> wpAny (model X.prog X.w) X.A (exec st X.env) (SP X pins D) X.xe s
def WB (st : List Stmt) : TS:=fun D σ H=>∀ (pins : List (Addr × Obj)) (s : Shared),Inv X pins σ H s -> wpAny (model X.prog X.w) X.A (execs st X.env) (SP X pins D) X.xe s
def WI (tg iter : Expr) : TI := fun σ H R => ∀ (pins : List (Addr × Obj)) (s : Shared), Inv X pins σ H s ->
    wpAny (model X.prog X.w) X.A (eval iter X.env) (fun v s1=>wpAny (model X.prog X.w) X.A (pyIter v) (PIE X pins σ tg R) X.xe s1) X.xe s
def WO (f : Value -> Value -> Sem Value) : R2:=fun x y H Q=>∀ (pins : List (Addr × Obj)) (s : Shared) (σ : St) (v u : Value),Inv X pins σ H s -> RelV x v -> RelV y u -> wpAny (model X.prog X.w) X.A (f v u) (EP X pins σ Q) X.xe s
def WC (f : Value) : List V -> Hp -> VK -> Prop:=fun xs H Q=>∀ (pins : List (Addr × Obj)) (s : Shared) (σ : St) (us : List Value),Inv X pins σ H s -> Vals xs us -> wpAny (model X.prog X.w) X.A (call f us) (EP X pins σ Q) X.xe s
end
section
variable {X : Cx}
theorem pe_w {e : Expr} : PE X e (WE X e):=fun pins s _ _ _ I h=>h pins s I
theorem pt_w {e : Expr} : PT X e (WT X e):=fun pins s _ _ _ I h=>h pins s I
theorem pw_w {e : Expr} : PW X e (WW X e):=fun wh pins s _ _ _ I h=>h wh pins s I
theorem pa_w {es : List Expr} : PA X es (WA X es):=fun pos pins s _ _ _ I h=>h pos pins s I
theorem ps_w {st : Stmt} : PS X st (WS X st):=fun pins s _ _ _ I h=>h pins s I
theorem pss_w {st : List Stmt} : PSs X st (WB X st):=fun pins s _ _ _ I h=>h pins s I
theorem pi_w {tg iter : Expr} : PI X tg iter (WI X tg iter):=fun pins s _ _ _ I h=>h pins s I
theorem op_w {f : Value -> Value -> Sem Value} : OpR X f (WO X f):=fun pins s σ _ _ _ v u _ I r1 r2 h=>h pins s σ v u I r1 r2
theorem call_w {f : Value} : CallR X f (WC X f):=fun pins s σ _ _ us _ I r h=>h pins s σ us I r
theorem WE.of {e : Expr} {t : TE} {σ : St} {H : Hp} {Q : VK} (h : PE X e t) (q : t σ H Q) : WE X e σ H Q:=fun pins s I=>h pins s σ H Q I q
theorem WT.of {e : Expr} {t : TT} {σ : St} {H : Hp} {Q : Bool -> Hp -> Prop} (h : PT X e t) (q : t σ H Q) : WT X e σ H Q:=fun pins s I=>h pins s σ H Q I q
theorem WW.of {e : Expr} {t : TT} {σ : St} {H : Hp} {Q : Bool -> Hp -> Prop} (h : PW X e t) (q : t σ H Q) : WW X e σ H Q:=fun wh pins s I=>h wh pins s σ H Q I q
theorem WA.of {es : List Expr} {t : TA} {σ : St} {H : Hp} {Q : List V -> Hp -> Prop} (h : PA X es t) (q : t σ H Q) : WA X es σ H Q:=fun pos pins s I=>h pos pins s σ H Q I q
theorem WS.of {st : Stmt} {t : TS} {σ : St} {H : Hp} {D : Ends} (h : PS X st t) (q : t D σ H) : WS X st D σ H:=fun pins s I=>h pins s σ H D I q
theorem WB.of {st : List Stmt} {t : TS} {σ : St} {H : Hp} {D : Ends} (h : PSs X st t) (q : t D σ H) : WB X st D σ H:=fun pins s I=>h pins s σ H D I q
theorem WI.of {tg iter : Expr} {t : TI} {σ : St} {H : Hp} {R : It -> Hp -> Prop} (h : PI X tg iter t) (q : t σ H R) : WI X tg iter σ H R:=fun pins s I=>h pins s σ H R I q
theorem WO.of {f : Value -> Value -> Sem Value} {r : R2} {x y : V} {H : Hp} {Q : VK} (h : OpR X f r) (q : r x y H Q) : WO X f x y H Q:=fun pins s σ v u I r1 r2=>h pins s σ H x y v u Q I r1 r2 q
theorem WC.of {f : Value} {r : List V -> Hp -> VK -> Prop} {xs : List V} {H : Hp} {Q : VK} (h : CallR X f r) (q : r xs H Q) : WC X f xs H Q:=fun pins s σ us I r1=>h pins s σ H xs us Q I r1 q
end
def XFs (H : Hp) (ρ : Tk) : Option (Str × PV) -> Option Addr -> Prop
  | none,dv=>dv = none
  | some (n,p),dv=>∃ dx v,dv = some dx /\ H dx = some (.xd [(n,v)]) /\ dx ∉ ρ /\ Rep H ρ p v
def Acc {α : Type} (mg : Str -> Option Value) (E : XK) (H : Hp) (ρ : Tk) (P : α -> Store -> Hp -> Tk -> Prop) : Res α -> Prop
  | .ok a st=>∀ H' ρ',Ext H ρ H' ρ' -> Rel H' ρ' st -> P a st H' ρ'
  | .exc x st=>∀ C dv H' ρ',mg x.cls = some (.ref C) -> Ext H ρ H' ρ' -> Rel H' ρ' st -> XFs H' ρ' x.fs dv -> E (.ref C) dv H'
  | .stuck=>False
section
variable {α β : Type} {mg : Str -> Option Value} {E : XK} {H H1 : Hp} {ρ ρ1 : Tk}
theorem Acc.mono {P P' : α -> Store -> Hp -> Tk -> Prop} {r : Res α} (h : Acc mg E H ρ P r) (x : Ext H ρ H1 ρ1) (k : ∀ a st H' ρ',P a st H' ρ' -> P' a st H' ρ') : Acc mg E H1 ρ1 P' r:=by
  cases r with
  | ok a st=>exact fun H' ρ' x' R'=>k _ _ _ _ (h H' ρ' (x.trans x') R')
  | exc e st=>exact fun C dv H' ρ' m x' R' f=>h C dv H' ρ' m (x.trans x') R' f
  | stuck=>exact h
theorem Acc.later {P : α -> Store -> Hp -> Tk -> Prop} {r : Res α} (h : Acc mg E H ρ P r) (x : Ext H ρ H1 ρ1) : Acc mg E H1 ρ1 P r:=h.mono x fun _ _ _ _ p=>p
theorem Acc.bind {P : β -> Store -> Hp -> Tk -> Prop} {r : Res α} {f : α -> Store -> Res β} (h : Acc mg E H ρ P (r.bind f)) : Acc mg E H ρ (fun a st1 H1 ρ1=>Acc mg E H1 ρ1 P (f a st1)) r:=by
  cases r with
  | ok a st=>exact fun H' ρ' x' R'=>Acc.later (show Acc mg E H ρ P (f a st) from h) x'
  | exc e st=>exact h
  | stuck=>exact h
end
abbrev QV (Q : VK) : PV -> Store -> Hp -> Tk -> Prop:=fun p _ H' ρ'=>∀ v,Rep H' ρ' p v -> Q v H'
abbrev QL (Q : List V -> Hp -> Prop) : List PV -> Store -> Hp -> Tk -> Prop:=fun ps _ H' ρ'=>∀ vs,RepL H' ρ' ps vs -> Q vs H'
abbrev QB (Q : Bool -> Hp -> Prop) : Bool -> Store -> Hp -> Tk -> Prop:=fun b _ H' _=>Q b H'
structure SimE (X : Cx) (E : XK) (e : Expr) (m : ME) : Prop where
  run : ∀ (Γ : Gam) (σ : St) (H : Hp) (ρ : Tk) (st : Store) (Q : VK),Rel H ρ st -> EnvR H ρ Γ σ -> Acc X.mg E H ρ (QV Q) (m Γ st) -> WE X e σ H Q
structure SimT (X : Cx) (E : XK) (e : Expr) (m : Gam -> Store -> Res Bool) : Prop where
  run : ∀ (Γ : Gam) (σ : St) (H : Hp) (ρ : Tk) (st : Store) (Q : Bool -> Hp -> Prop),Rel H ρ st -> EnvR H ρ Γ σ -> Acc X.mg E H ρ (QB Q) (m Γ st) -> WT X e σ H Q
structure SimW (X : Cx) (E : XK) (e : Expr) (m : Gam -> Store -> Res Bool) : Prop where
  run : ∀ (Γ : Gam) (σ : St) (H : Hp) (ρ : Tk) (st : Store) (Q : Bool -> Hp -> Prop),Rel H ρ st -> EnvR H ρ Γ σ -> Acc X.mg E H ρ (QB Q) (m Γ st) -> WW X e σ H Q
structure SimA (X : Cx) (E : XK) (es : List Expr) (m : Gam -> Store -> Res (List PV)) : Prop where
  run : ∀ (Γ : Gam) (σ : St) (H : Hp) (ρ : Tk) (st : Store) (Q : List V -> Hp -> Prop),Rel H ρ st -> EnvR H ρ Γ σ -> Acc X.mg E H ρ (QL Q) (m Γ st) -> WA X es σ H Q
abbrev OP:=Store -> PV -> PV -> Res PV
structure OpS (X : Cx) (E : XK) (f : Value -> Value -> Sem Value) (o : OP) : Prop where
  run : ∀ (H : Hp) (ρ : Tk) (st : Store) (p q : PV) (x y : V) (Q : VK),Rel H ρ st -> Rep H ρ p x -> Rep H ρ q y -> Acc X.mg E H ρ (QV Q) (o st p q) -> WO X f x y H Q
abbrev CF:=Store -> List PV -> Res PV
structure CallS (X : Cx) (E : XK) (f : Value) (o : CF) : Prop where
  run : ∀ (H : Hp) (ρ : Tk) (st : Store) (ps : List PV) (xs : List V) (Q : VK),Rel H ρ st -> RepL H ρ ps xs -> Acc X.mg E H ρ (QV Q) (o st ps) -> WC X f xs H Q
section
variable {X : Cx} {E : XK} {Γ : Gam} {σ : St} {H : Hp} {ρ : Tk} {st : Store}
theorem SimE.use {e : Expr} {m : ME} (s : SimE X E e m) {P : PV -> Store -> Hp -> Tk -> Prop} {Q : VK} (R : Rel H ρ st) (G : EnvR H ρ Γ σ) (h : Acc X.mg E H ρ P (m Γ st))
    (k : ∀ p st1 H1 ρ1 v,Ext H ρ H1 ρ1 -> Rel H1 ρ1 st1 -> EnvR H1 ρ1 Γ σ -> Rep H1 ρ1 p v -> P p st1 H1 ρ1 -> Q v H1) : WE X e σ H Q:=by
  refine s.run Γ σ H ρ st Q R G ?_
  cases r : m Γ st with
  | ok p st1=>rw [r] at h; exact fun H' ρ' x' R' v rv=>k p st1 H' ρ' v x' R' (G.ext x') rv (h H' ρ' x' R')
  | exc e st=>rw [r] at h; exact h
  | stuck=>rw [r] at h; exact h
theorem SimE.use' {e : Expr} {m : ME} (s : SimE X E e m) {P : PV -> Store -> Hp -> Tk -> Prop} {Q : VK} (R : Rel H ρ st) (G : EnvR H ρ Γ σ) (h : Acc X.mg E H ρ P (m Γ st))
    (k : ∀ p st1 H1 ρ1 v,m Γ st = .ok p st1 -> Ext H ρ H1 ρ1 -> Rel H1 ρ1 st1 -> EnvR H1 ρ1 Γ σ -> Rep H1 ρ1 p v -> P p st1 H1 ρ1 -> Q v H1) : WE X e σ H Q:=by
  refine s.run Γ σ H ρ st Q R G ?_
  cases r : m Γ st with
  | ok p st1=>rw [r] at h; exact fun H' ρ' x' R' v rv=>k p st1 H' ρ' v r x' R' (G.ext x') rv (h H' ρ' x' R')
  | exc e st=>rw [r] at h; exact h
  | stuck=>rw [r] at h; exact h
theorem SimA.use' {es : List Expr} {m : Gam -> Store -> Res (List PV)} (s : SimA X E es m) {P : List PV -> Store -> Hp -> Tk -> Prop} {Q : List V -> Hp -> Prop} (R : Rel H ρ st) (G : EnvR H ρ Γ σ) (h : Acc X.mg E H ρ P (m Γ st))
    (k : ∀ ps st1 H1 ρ1 vs,m Γ st = .ok ps st1 -> Ext H ρ H1 ρ1 -> Rel H1 ρ1 st1 -> EnvR H1 ρ1 Γ σ -> RepL H1 ρ1 ps vs -> P ps st1 H1 ρ1 -> Q vs H1) : WA X es σ H Q:=by
  refine s.run Γ σ H ρ st Q R G ?_
  cases r : m Γ st with
  | ok p st1=>rw [r] at h; exact fun H' ρ' x' R' v rv=>k p st1 H' ρ' v r x' R' (G.ext x') rv (h H' ρ' x' R')
  | exc e st=>rw [r] at h; exact h
  | stuck=>rw [r] at h; exact h
theorem SimT.use {e : Expr} {m : Gam -> Store -> Res Bool} (s : SimT X E e m) {P : Bool -> Store -> Hp -> Tk -> Prop} {Q : Bool -> Hp -> Prop} (R : Rel H ρ st) (G : EnvR H ρ Γ σ) (h : Acc X.mg E H ρ P (m Γ st))
    (k : ∀ p st1 H1 ρ1,Ext H ρ H1 ρ1 -> Rel H1 ρ1 st1 -> EnvR H1 ρ1 Γ σ -> P p st1 H1 ρ1 -> Q p H1) : WT X e σ H Q:=by
  refine s.run Γ σ H ρ st Q R G ?_
  cases r : m Γ st with
  | ok p st1=>rw [r] at h; exact fun H' ρ' x' R'=>k p st1 H' ρ' x' R' (G.ext x') (h H' ρ' x' R')
  | exc e st=>rw [r] at h; exact h
  | stuck=>rw [r] at h; exact h
theorem SimW.use {e : Expr} {m : Gam -> Store -> Res Bool} (s : SimW X E e m) {P : Bool -> Store -> Hp -> Tk -> Prop} {Q : Bool -> Hp -> Prop} (R : Rel H ρ st) (G : EnvR H ρ Γ σ) (h : Acc X.mg E H ρ P (m Γ st))
    (k : ∀ p st1 H1 ρ1,Ext H ρ H1 ρ1 -> Rel H1 ρ1 st1 -> EnvR H1 ρ1 Γ σ -> P p st1 H1 ρ1 -> Q p H1) : WW X e σ H Q:=by
  refine s.run Γ σ H ρ st Q R G ?_
  cases r : m Γ st with
  | ok p st1=>rw [r] at h; exact fun H' ρ' x' R'=>k p st1 H' ρ' x' R' (G.ext x') (h H' ρ' x' R')
  | exc e st=>rw [r] at h; exact h
  | stuck=>rw [r] at h; exact h
theorem SimA.use {es : List Expr} {m : Gam -> Store -> Res (List PV)} (s : SimA X E es m) {P : List PV -> Store -> Hp -> Tk -> Prop} {Q : List V -> Hp -> Prop} (R : Rel H ρ st) (G : EnvR H ρ Γ σ) (h : Acc X.mg E H ρ P (m Γ st))
    (k : ∀ ps st1 H1 ρ1 vs,Ext H ρ H1 ρ1 -> Rel H1 ρ1 st1 -> EnvR H1 ρ1 Γ σ -> RepL H1 ρ1 ps vs -> P ps st1 H1 ρ1 -> Q vs H1) : WA X es σ H Q:=by
  refine s.run Γ σ H ρ st Q R G ?_
  cases r : m Γ st with
  | ok p st1=>rw [r] at h; exact fun H' ρ' x' R' v rv=>k p st1 H' ρ' v x' R' (G.ext x') rv (h H' ρ' x' R')
  | exc e st=>rw [r] at h; exact h
  | stuck=>rw [r] at h; exact h
theorem OpS.use {f : Value -> Value -> Sem Value} {o : OP} (s : OpS X E f o) {P : PV -> Store -> Hp -> Tk -> Prop} {Q : VK} {p q : PV} {x y : V} (R : Rel H ρ st) (rp : Rep H ρ p x) (rq : Rep H ρ q y) (h : Acc X.mg E H ρ P (o st p q))
    (k : ∀ p st1 H1 ρ1 v,Ext H ρ H1 ρ1 -> Rel H1 ρ1 st1 -> Rep H1 ρ1 p v -> P p st1 H1 ρ1 -> Q v H1) : WO X f x y H Q:=by
  refine s.run H ρ st p q x y Q R rp rq ?_
  cases r : o st p q with
  | ok p st1=>rw [r] at h; exact fun H' ρ' x' R' v rv=>k p st1 H' ρ' v x' R' rv (h H' ρ' x' R')
  | exc e st=>rw [r] at h; exact h
  | stuck=>rw [r] at h; exact h
end
end Sm
namespace Sm
open PySem PySem.Spec L2 SeqAt
mutual
def peq : PV -> PV -> Bool
  | .non,.non=>true
  | .bl a,.bl b=>a == b
  | .bl a,.int b=>(if a then 1 else 0) == b
  | .int a,.bl b=>a == (if b then 1 else 0)
  | .int a,.int b=>a == b
  | .str a,.str b=>a == b
  | .tup xs,.tup ys=>peqL xs ys
  | .lst xs,.lst ys=>peqL xs ys
  | .lst xs,.fro ys=>peqL xs ys
  | .fro xs,.lst ys=>peqL xs ys
  | .fro xs,.fro ys=>peqL xs ys
  | _,_=>false
def peqL : List PV -> List PV -> Bool
  | [],[]=>true
  | x :: xs,y :: ys=>peq x y && peqL xs ys
  | _,_=>false
end
def good : Nat -> PV -> Bool
  | _,.ref _=>false
  | _,.dic=>false
  | 0,.tup _=>false
  | 0,.lst _=>false
  | 0,.fro _=>false
  | n + 1,.tup xs=>xs.all (good n)
  | n + 1,.lst xs=>xs.all (good n)
  | n + 1,.fro xs=>xs.all (good n)
  | _,_=>true
theorem peqL_len : ∀ {xs ys : List PV},xs.length ≠ ys.length -> peqL xs ys = false
  | [],[],h=>absurd rfl h
  | [],_ :: _,_=>by simp [peqL]
  | _ :: _,[],_=>by simp [peqL]
  | x :: xs,y :: ys,h=>by
    rw [peqL,peqL_len (xs:=xs) (ys:=ys) fun e=>h (by simp [e]),Bool.and_false]
theorem peqL_all : ∀ {xs ys : List PV},xs.length = ys.length -> peqL xs ys = (List.range xs.length).all fun j=>peq (xs.getD j .non) (ys.getD j .non)
  | [],[],_=>by simp [peqL]
  | [],_ :: _,h=>by simp at h
  | _ :: _,[],h=>by simp at h
  | x :: xs,y :: ys,h=>by
    rw [peqL,peqL_all (xs:=xs) (ys:=ys) (by simpa using h),List.length_cons,List.range_succ_eq_map,List.all_cons,List.all_map]
    rfl
section
variable {X : Cx} {pins : List (Addr × Obj)} {σ : St} {H : Hp} {s : Shared} {ρ : Tk}
mutual
theorem rep_same : ∀ {p q : PV} {x : V} {n : Nat},good n p = true -> good n q = true -> Rep H ρ p x -> Rep H ρ q x -> peq p q = true
  | .non,q,x,n,_,gq,h1,h2=>by
    cases h1
    cases q <;> first | rfl | (cases n <;> cases gq; done) | (cases h2; done) | (obtain ⟨_,_,e,_⟩:=h2; cases e) | (obtain ⟨_,_,e⟩:=h2; cases e)
  | .bl b,q,x,n,_,gq,h1,h2=>by
    cases h1
    cases q <;> first | (cases n <;> cases gq; done) | (cases h2; simp [peq]; done) | (obtain ⟨_,_,e,_⟩:=h2; done) | (obtain ⟨_,_,e,_⟩:=h2; cases e; done) | (obtain ⟨_,_,e⟩:=h2; cases e)
  | .int b,q,x,n,_,gq,h1,h2=>by
    cases h1
    cases q <;> first | (cases n <;> cases gq; done) | (cases h2; simp [peq]; done) | (obtain ⟨_,_,e,_⟩:=h2; done) | (obtain ⟨_,_,e,_⟩:=h2; cases e; done) | (obtain ⟨_,_,e⟩:=h2; cases e)
  | .str b,q,x,n,_,gq,h1,h2=>by
    cases h1
    cases q <;> first | (cases n <;> cases gq; done) | (cases h2; simp [peq]; done) | (obtain ⟨_,_,e,_⟩:=h2; done) | (obtain ⟨_,_,e,_⟩:=h2; cases e; done) | (obtain ⟨_,_,e⟩:=h2; cases e)
  | .tup ps,q,x,0,gp,_,_,_=>by cases gp
  | .tup ps,q,x,n + 1,gp,gq,⟨a,vs,e,ha,_,r⟩,h2=>by
    subst e
    cases q with
    | tup qs=>
      obtain ⟨b,us,e,hb,_,r2⟩:=h2
      cases e
      rw [ha] at hb; cases hb
      rw [peq]
      exact repL_same gp gq r r2
    | lst qs=>obtain ⟨b,us,e,hb,_⟩:=h2; cases e; rw [ha] at hb; cases hb
    | fro qs=>obtain ⟨b,us,e,hb,_⟩:=h2; cases e; rcases hb with hb | ⟨o,hb⟩ <;> (rw [ha] at hb; cases hb)
    | ref i=>cases gq
    | dic=>cases gq
    | _=>cases h2
  | .lst ps,q,x,0,gp,_,_,_=>by cases gp
  | .lst ps,q,x,n + 1,gp,gq,⟨a,vs,e,ha,_,r⟩,h2=>by
    subst e
    cases q with
    | lst qs=>
      obtain ⟨b,us,e,hb,_,r2⟩:=h2
      cases e
      rw [ha] at hb; cases hb
      rw [peq]
      exact repL_same gp gq r r2
    | tup qs=>obtain ⟨b,us,e,hb,_⟩:=h2; cases e; rw [ha] at hb; cases hb
    | fro qs=>
      obtain ⟨b,us,e,hb,_,r2⟩:=h2
      cases e
      rcases hb with hb | ⟨o,hb⟩
      · rw [ha] at hb; cases hb
        rw [peq]
        exact repL_same gp gq r r2
      · rw [ha] at hb; cases hb
    | ref i=>cases gq
    | dic=>cases gq
    | _=>cases h2
  | .fro ps,q,x,0,gp,_,_,_=>by cases gp
  | .fro ps,q,x,n + 1,gp,gq,⟨a,vs,e,ha,_,r⟩,h2=>by
    subst e
    cases q with
    | lst qs=>
      obtain ⟨b,us,e,hb,_,r2⟩:=h2
      cases e
      rcases ha with ha | ⟨o,ha⟩
      · rw [ha] at hb; cases hb
        rw [peq]
        exact repL_same gp gq r r2
      · rw [ha] at hb; cases hb
    | tup qs=>obtain ⟨b,us,e,hb,_⟩:=h2; cases e; rcases ha with ha | ⟨o,ha⟩ <;> (rw [ha] at hb; cases hb)
    | fro qs=>
      obtain ⟨b,us,e,hb,_,r2⟩:=h2
      cases e
      have : vs = us:=by
        rcases ha with ha | ⟨o,ha⟩ <;> rcases hb with hb | ⟨o',hb⟩ <;> (rw [ha] at hb; cases hb) <;> rfl
      subst this
      rw [peq]
      exact repL_same gp gq r r2
    | ref i=>cases gq
    | dic=>cases gq
    | _=>cases h2
  | .ref i,_,_,n,gp,_,_,_=>by cases n <;> cases gp
  | .dic,_,_,n,gp,_,_,_=>by cases n <;> cases gp
theorem repL_same : ∀ {ps qs : List PV} {vs : List V} {n : Nat},ps.all (good n) = true -> qs.all (good n) = true -> RepL H ρ ps vs -> RepL H ρ qs vs -> peqL ps qs = true
  | [],qs,vs,n,_,_,h1,h2=>by
    cases h1
    cases qs with
    | nil=>rfl
    | cons q qs=>obtain ⟨_,_,e,_⟩:=h2; cases e
  | p :: ps,qs,vs,n,g1,g2,⟨v,r,e,h1,h1'⟩,h2=>by
    subst e
    cases qs with
    | nil=>cases h2
    | cons q qs=>
      obtain ⟨_,_,e,h2,h2'⟩:=h2
      cases e
      rw [List.all_cons,Bool.and_eq_true] at g1 g2
      rw [peqL,rep_same g1.1 g2.1 h1 h2,repL_same g1.2 g2.2 h1' h2']; rfl
end
inductive Kd (H : Hp) (ρ : Tk) (s : Shared) : PV -> Value -> Prop where
  | non : Kd H ρ s .non .none
  | bl (b) : Kd H ρ s (.bl b) (.bool b)
  | int (i t) : Kd H ρ s (.int i) (.int i t)
  | str (x t) : Kd H ρ s (.str x) (.str x t)
  | tup (ps a) (vs : List V) (its : List Value) : H a = some (.tup vs) -> RepL H ρ ps vs -> Vals vs its -> s.heap.IsTuple a its.toArray -> Kd H ρ s (.tup ps) (.ref a)
  | lst (p ps a) (vs : List V) (its : List Value) : (p = .lst ps \/ p = .fro ps) -> RepL H ρ ps vs -> Vals vs its -> s.heap.IsList a its.toArray -> Kd H ρ s p (.ref a)
theorem kd_of {p : PV} {x : V} {u : Value} {n : Nat} (I : Inv X pins σ H s) (g : good n p = true) (r : Rep H ρ p x) (ru : RelV x u) : Kd H ρ s p u:=by
  cases p with
  | non=>cases r; cases ru; exact .non
  | bl b=>cases r; cases ru; exact .bl b
  | int i=>cases r; obtain ⟨t,rfl⟩:=ru; exact .int i t
  | str i=>cases r; obtain ⟨t,rfl⟩:=ru; exact .str i t
  | tup ps=>
    obtain ⟨a,vs,rfl,ha,_,rr⟩:=r
    cases ru
    obtain ⟨its,v1,p1,_⟩:=I.tuple (SqT.of (K:=X.K) ha)
    exact .tup ps a vs its ha rr v1 p1
  | lst ps=>
    obtain ⟨a,vs,rfl,ha,_,rr⟩:=r
    cases ru
    obtain ⟨its,v1,p1,_⟩:=I.list (SqL.of (K:=X.K) ha)
    exact .lst _ ps a vs its (.inl rfl) rr v1 p1.isList
  | fro ps=>
    obtain ⟨a,vs,rfl,ha,_,rr⟩:=r
    cases ru
    obtain ⟨its,v1,p1,_⟩:=I.list (show SqL X.K H a vs from .inl ha)
    exact .lst _ ps a vs its (.inr rfl) rr v1 p1.isList
  | ref i=>cases n <;> cases g
  | dic=>cases n <;> cases g
theorem getD_of {ps : List PV} {vs : List V} {its : List Value} (r : RepL H ρ ps vs) (v : Vals vs its) {j : Nat} (h : j < its.length) : ∃ x,Rep H ρ (ps.getD j .non) x /\ RelV x its[j]:=by
  have l1:=r.length
  have l2:=v.length
  have hj : j < ps.length:=by omega
  obtain ⟨x,e1,e2⟩:=r.get (List.getElem?_eq_getElem hj)
  obtain ⟨u,e3,e4⟩:=v.get e1
  rw [List.getElem?_eq_getElem h] at e3; cases e3
  refine ⟨x,?_,e4⟩
  rw [List.getD,List.getElem?_eq_getElem hj]
  exact e2
theorem good_getD {ps : List PV} {n : Nat} (g : ps.all (good n) = true) (j : Nat) (hj : j < ps.length) : good n (ps.getD j .non) = true:=by
  rw [List.getD,List.getElem?_eq_getElem hj]
  exact (List.all_eq_true.mp g) _ (List.getElem_mem hj)
theorem peqL_range {ps qs : List PV} : ((List.range (min ps.length qs.length)).all (fun j=>peq (ps.getD j .non) (qs.getD j .non)) && ps.length == qs.length) = peqL ps qs:=by
  by_cases e : ps.length = qs.length
  · rw [peqL_all e,<- e,Nat.min_self,beq_self_eq_true,Bool.and_true]
  · rw [peqL_len e,beq_eq_false_iff_ne.mpr e,Bool.and_false]
theorem eqAts : ∀ (n : Nat) {A : Around} {p q : PV} {x y : V} {u v : Value},Inv X pins σ H s -> good n p = true -> good n q = true -> A.units + n < cLine -> Rep H ρ p x -> RelV x u -> Rep H ρ q y -> RelV y v ->
    EqAt A s u v (peq p q) /\ RcAt A s u v (peq p q) /\ RcNeAt A s u v (!peq p q):=by
  intro n
  induction n with
  | zero=>
    intro A p q x y u v I gp gq hu rp ru rq rv
    have k1:=kd_of I gp rp ru
    have k2:=kd_of I gq rq rv
    have hu : A.units < cLine:=by omega
    cases k1 with
    | tup=>cases gp
    | lst p ps a vs its h=>rcases h with rfl | rfl <;> cases gp
    | non=>cases k2 with
      | tup=>cases gq
      | lst p ps a vs its h=>rcases h with rfl | rfl <;> cases gq
      | non=>exact ⟨EqAt.same _,RcAt.none_none,RcNeAt.none_none⟩
      | bl b=>exact ⟨EqAt.none_bool _,RcAt.none_bool _,RcNeAt.none_bool _⟩
      | int i t=>exact ⟨EqAt.none_int _ _,RcAt.none_int _ _,RcNeAt.none_int _ _⟩
      | str i t=>exact ⟨EqAt.none_str _ _,RcAt.none_str _ _,RcNeAt.none_str _ _⟩
    | bl a=>cases k2 with
      | tup=>cases gq
      | lst p ps a vs its h=>rcases h with rfl | rfl <;> cases gq
      | non=>exact ⟨EqAt.bool_none _,RcAt.bool_none _,RcNeAt.bool_none _⟩
      | bl b=>exact ⟨EqAt.bool_bool _ _,RcAt.bool_bool _ _,RcNeAt.bool_bool _ _⟩
      | int i t=>exact ⟨EqAt.bool_int _ _ _,RcAt.bool_int _ _ _,RcNeAt.bool_int _ _ _⟩
      | str i t=>exact ⟨EqAt.bool_str _ _ _,RcAt.bool_str _ _ _,RcNeAt.bool_str _ _ _⟩
    | int a at'=>cases k2 with
      | tup=>cases gq
      | lst p ps a vs its h=>rcases h with rfl | rfl <;> cases gq
      | non=>exact ⟨EqAt.int_none _ _,RcAt.int_none _ _,RcNeAt.int_none _ _⟩
      | bl b=>exact ⟨EqAt.int_bool _ _ _,RcAt.int_bool _ _ _,RcNeAt.int_bool _ _ _⟩
      | int i t=>exact ⟨EqAt.int_int _ _ _ _,RcAt.int_int _ _ _ _,RcNeAt.int_int _ _ _ _⟩
      | str i t=>exact ⟨EqAt.int_str _ _ _ _,RcAt.int_str _ _ _ _,RcNeAt.int_str _ _ _ _⟩
    | str a at'=>cases k2 with
      | tup=>cases gq
      | lst p ps a vs its h=>rcases h with rfl | rfl <;> cases gq
      | non=>exact ⟨EqAt.str_none _ _,RcAt.str_none _ _,RcNeAt.str_none _ _⟩
      | bl b=>exact ⟨EqAt.str_bool _ _ _,RcAt.str_bool _ _ _,RcNeAt.str_bool _ _ _⟩
      | int i t=>exact ⟨EqAt.str_int _ _ _ _,RcAt.str_int _ _ _ _,RcNeAt.str_int _ _ _ _⟩
      | str i t=>exact ⟨EqAt.str_str _ _ _ _,RcAt.str_str _ _ _ _,RcNeAt.str_str _ _ _ _⟩
  | succ n ih=>
    intro A p q x y u v I gp gq hu rp ru rq rv
    have k1:=kd_of I gp rp ru
    have k2:=kd_of I gq rq rv
    have hu0 : A.units < cLine:=by omega
    have hin : A.in1.units + n < cLine:=by show A.units + 1 + n < cLine; omega
    cases k1 with
    | non=>cases k2 with
      | non=>exact ⟨EqAt.same _,RcAt.none_none,RcNeAt.none_none⟩
      | bl b=>exact ⟨EqAt.none_bool _,RcAt.none_bool _,RcNeAt.none_bool _⟩
      | int i t=>exact ⟨EqAt.none_int _ _,RcAt.none_int _ _,RcNeAt.none_int _ _⟩
      | str i t=>exact ⟨EqAt.none_str _ _,RcAt.none_str _ _,RcNeAt.none_str _ _⟩
      | tup ps a vs its ha r v1 p1=>exact ⟨EqAt.none_tuple p1 hu0,RcAt.none_tuple p1 hu0,RcNeAt.none_tuple p1 hu0⟩
      | lst p ps a vs its h r v1 p1=>rcases h with rfl | rfl <;> exact ⟨EqAt.none_list p1 hu0,RcAt.none_list p1 hu0,RcNeAt.none_list p1 hu0⟩
    | bl a=>cases k2 with
      | non=>exact ⟨EqAt.bool_none _,RcAt.bool_none _,RcNeAt.bool_none _⟩
      | bl b=>exact ⟨EqAt.bool_bool _ _,RcAt.bool_bool _ _,RcNeAt.bool_bool _ _⟩
      | int i t=>exact ⟨EqAt.bool_int _ _ _,RcAt.bool_int _ _ _,RcNeAt.bool_int _ _ _⟩
      | str i t=>exact ⟨EqAt.bool_str _ _ _,RcAt.bool_str _ _ _,RcNeAt.bool_str _ _ _⟩
      | tup ps a vs its ha r v1 p1=>exact ⟨EqAt.bool_tuple _ p1 hu0,RcAt.bool_tuple _ p1 hu0,RcNeAt.bool_tuple _ p1 hu0⟩
      | lst p ps a vs its h r v1 p1=>rcases h with rfl | rfl <;> exact ⟨EqAt.bool_list _ p1 hu0,RcAt.bool_list _ p1 hu0,RcNeAt.bool_list _ p1 hu0⟩
    | int a at'=>cases k2 with
      | non=>exact ⟨EqAt.int_none _ _,RcAt.int_none _ _,RcNeAt.int_none _ _⟩
      | bl b=>exact ⟨EqAt.int_bool _ _ _,RcAt.int_bool _ _ _,RcNeAt.int_bool _ _ _⟩
      | int i t=>exact ⟨EqAt.int_int _ _ _ _,RcAt.int_int _ _ _ _,RcNeAt.int_int _ _ _ _⟩
      | str i t=>exact ⟨EqAt.int_str _ _ _ _,RcAt.int_str _ _ _ _,RcNeAt.int_str _ _ _ _⟩
      | tup ps a vs its ha r v1 p1=>exact ⟨EqAt.int_tuple _ _ p1 hu0,RcAt.int_tuple _ _ p1 hu0,RcNeAt.int_tuple _ _ p1 hu0⟩
      | lst p ps a vs its h r v1 p1=>rcases h with rfl | rfl <;> exact ⟨EqAt.int_list _ _ p1 hu0,RcAt.int_list _ _ p1 hu0,RcNeAt.int_list _ _ p1 hu0⟩
    | str a at'=>cases k2 with
      | non=>exact ⟨EqAt.str_none _ _,RcAt.str_none _ _,RcNeAt.str_none _ _⟩
      | bl b=>exact ⟨EqAt.str_bool _ _ _,RcAt.str_bool _ _ _,RcNeAt.str_bool _ _ _⟩
      | int i t=>exact ⟨EqAt.str_int _ _ _ _,RcAt.str_int _ _ _ _,RcNeAt.str_int _ _ _ _⟩
      | str i t=>exact ⟨EqAt.str_str _ _ _ _,RcAt.str_str _ _ _ _,RcNeAt.str_str _ _ _ _⟩
      | tup ps a vs its ha r v1 p1=>exact ⟨EqAt.str_tuple _ _ p1 hu0,RcAt.str_tuple _ _ p1 hu0,RcNeAt.str_tuple _ _ p1 hu0⟩
      | lst p ps a vs its h r v1 p1=>rcases h with rfl | rfl <;> exact ⟨EqAt.str_list _ _ p1 hu0,RcAt.str_list _ _ p1 hu0,RcNeAt.str_list _ _ p1 hu0⟩
    | tup ps a vs its ha r v1 p1=>cases k2 with
      | non=>exact ⟨EqAt.tuple_none p1 hu0,RcAt.tuple_none p1 hu0,RcNeAt.tuple_none p1 hu0⟩
      | bl b=>exact ⟨EqAt.tuple_bool _ p1 hu0,RcAt.tuple_bool _ p1 hu0,RcNeAt.tuple_bool _ p1 hu0⟩
      | int i t=>exact ⟨EqAt.tuple_int _ _ p1 hu0,RcAt.tuple_int _ _ p1 hu0,RcNeAt.tuple_int _ _ p1 hu0⟩
      | str i t=>exact ⟨EqAt.tuple_str _ _ p1 hu0,RcAt.tuple_str _ _ p1 hu0,RcNeAt.tuple_str _ _ p1 hu0⟩
      | tup qs b us its2 hb r2 v2 p2=>
        have l1 : its.toArray.size = ps.length:=by rw [List.size_toArray,<- v1.length,r.length]
        have l2 : its2.toArray.size = qs.length:=by rw [List.size_toArray,<- v2.length,r2.length]
        have he : ∀ j (h1 : j < its.toArray.size) (h2 : j < its2.toArray.size),EqAt A.in1 s its.toArray[j] its2.toArray[j] (peq (ps.getD j .non) (qs.getD j .non)):=fun j h1 h2=>by
          obtain ⟨x1,a1,b1⟩:=getD_of r v1 (j:=j) (by simpa using h1)
          obtain ⟨x2,a2,b2⟩:=getD_of r2 v2 (j:=j) (by simpa using h2)
          exact (ih I (good_getD gp j (by omega)) (good_getD gq j (by omega)) hin a1 b1 a2 b2).1
        have rc:=RcAt.tuples p1 p2 hu0 he
        have rn:=RcNeAt.tuples p1 p2 hu0 he
        rw [l1,l2,peqL_range] at rc rn
        refine ⟨?_,rc,rn⟩
        by_cases e : a = b
        · subst e
          have : peqL ps qs = true:=by
            rw [ha] at hb; cases hb
            exact repL_same gp gq r r2
          show EqAt A s _ _ (peqL ps qs)
          rw [this]
          exact EqAt.same _
        · exact EqAt.of_refs e rc
      | lst q qs b us its2 h r2 v2 p2=>rcases h with rfl | rfl <;> exact ⟨EqAt.tuple_list p1 p2 hu0,RcAt.tuple_list p1 p2 hu0,RcNeAt.tuple_list p1 p2 hu0⟩
    | lst p ps a vs its h r v1 p1=>cases k2 with
      | non=>rcases h with rfl | rfl <;> exact ⟨EqAt.list_none p1 hu0,RcAt.list_none p1 hu0,RcNeAt.list_none p1 hu0⟩
      | bl b=>rcases h with rfl | rfl <;> exact ⟨EqAt.list_bool _ p1 hu0,RcAt.list_bool _ p1 hu0,RcNeAt.list_bool _ p1 hu0⟩
      | int i t=>rcases h with rfl | rfl <;> exact ⟨EqAt.list_int _ _ p1 hu0,RcAt.list_int _ _ p1 hu0,RcNeAt.list_int _ _ p1 hu0⟩
      | str i t=>rcases h with rfl | rfl <;> exact ⟨EqAt.list_str _ _ p1 hu0,RcAt.list_str _ _ p1 hu0,RcNeAt.list_str _ _ p1 hu0⟩
      | tup qs b us its2 hb r2 v2 p2=>rcases h with rfl | rfl <;> exact ⟨EqAt.list_tuple p1 p2 hu0,RcAt.list_tuple p1 p2 hu0,RcNeAt.list_tuple p1 p2 hu0⟩
      | lst q qs b us its2 h2 r2 v2 p2=>
        have l1 : its.toArray.size = ps.length:=by rw [List.size_toArray,<- v1.length,r.length]
        have l2 : its2.toArray.size = qs.length:=by rw [List.size_toArray,<- v2.length,r2.length]
        have gp' : ps.all (good n) = true:=by rcases h with rfl | rfl <;> exact gp
        have gq' : qs.all (good n) = true:=by rcases h2 with rfl | rfl <;> exact gq
        have ep : peq p q = peqL ps qs:=by rcases h with rfl | rfl <;> rcases h2 with rfl | rfl <;> rfl
        have he : ∀ j (h1 : j < its.toArray.size) (h2 : j < its2.toArray.size),EqAt A.in1 s its.toArray[j] its2.toArray[j] (peq (ps.getD j .non) (qs.getD j .non)):=fun j h1 h2=>by
          obtain ⟨x1,a1,b1⟩:=getD_of r v1 (j:=j) (by simpa using h1)
          obtain ⟨x2,a2,b2⟩:=getD_of r2 v2 (j:=j) (by simpa using h2)
          exact (ih I (good_getD gp' j (by omega)) (good_getD gq' j (by omega)) hin a1 b1 a2 b2).1
        rw [ep]
        have rcn : RcAt A s (.ref a) (.ref b) (peqL ps qs) /\ RcNeAt A s (.ref a) (.ref b) (!peqL ps qs):=by
          by_cases e : ps.length = qs.length
          · have rc:=RcAt.lists p1 p2 (by rw [l1,l2,e]) hu0 he
            have rn:=RcNeAt.lists p1 p2 (by rw [l1,l2,e]) hu0 he
            rw [l1,<- peqL_all e] at rc rn
            exact ⟨rc,rn⟩
          · have e' : (its.toArray.size != its2.toArray.size) = true:=by rw [l1,l2]; simpa using e
            rw [peqL_len e]
            exact ⟨RcAt.lists_lengths p1 p2 e' hu0,RcNeAt.lists_lengths p1 p2 e' hu0⟩
        refine ⟨?_,rcn.1,rcn.2⟩
        by_cases e : a = b
        · subst e
          have eq1 : peq p q = true:=by
            have rp':=rp
            have rq':=rq
            have xa : x = .ref a:=by
              rcases h with rfl | rfl <;> (obtain ⟨b',_,rfl,_⟩:=rp; cases ru; rfl)
            have ya : y = .ref a:=by
              rcases h2 with rfl | rfl <;> (obtain ⟨b',_,rfl,_⟩:=rq; cases rv; rfl)
            subst xa; subst ya
            exact rep_same gp gq rp rq
          rw [<- ep,eq1]
          exact EqAt.same _
        · exact EqAt.of_refs e rcn.1
end
end Sm
namespace Sm
open PySem PySem.Spec L2
def lim : Nat:=1000000
theorem lim_le : lim <= sizeLine:=by decide
theorem le_lim {n : Nat} (h : n <= lim) : n <= sizeLine:=Nat.le_trans h lim_le
def lstOf (st : Store) : PV -> Option (List PV)
  | .lst xs=>some xs
  | .ref i=>match st[i]? with
    | some (.lst xs)=>some xs
    | _=>none
  | _=>none
def listOf (st : Store) : PV -> Option (List PV)
  | .fro xs=>some xs
  | p=>lstOf st p
def seqOf (st : Store) : PV -> Option (List PV)
  | .tup xs=>some xs
  | p=>listOf st p
def der (st : Store) : PV -> PV
  | .ref i=>match st[i]? with
    | some (.lst xs)=>.lst xs
    | _=>.ref i
  | p=>p
section
variable {H : Hp} {ρ : Tk} {st : Store} {p : PV} {v : V} {xs : List PV}
theorem lst_at (R : Rel H ρ st) (r : Rep H ρ p v) (e : lstOf st p = some xs) : ∃ a vs,v = .ref a /\ H a = some (.lst vs) /\ RepL H ρ xs vs:=by
  cases p with
  | lst ys=>
    obtain ⟨a,vs,e1,e2,_,e3⟩:=r
    cases e
    exact ⟨a,vs,e1,e2,e3⟩
  | ref i=>
    obtain ⟨a,e1,e2⟩:=r
    simp only [lstOf] at e
    split at e
    · rename_i ys hs
      cases e
      obtain ⟨b,vs,f1,f2,f3⟩:=R.lst hs
      rw [e1] at f1; cases f1
      exact ⟨a,vs,e2,f2,f3⟩
    · cases e
  | _=>cases e
theorem list_at (R : Rel H ρ st) (r : Rep H ρ p v) (e : listOf st p = some xs) : ∃ a vs,v = .ref a /\ Rd H a (.lst vs) /\ RepL H ρ xs vs:=by
  cases p with
  | fro ys=>
    obtain ⟨a,vs,e1,e2,_,e3⟩:=r
    cases e
    exact ⟨a,vs,e1,e2,e3⟩
  | _=>
    obtain ⟨a,vs,e1,e2,e3⟩:=lst_at R r e
    exact ⟨a,vs,e1,.inl e2,e3⟩
theorem seq_at {K : PySem.W.Frag} (R : Rel H ρ st) (r : Rep H ρ p v) (e : seqOf st p = some xs) : ∃ (t : Bool) (a : Addr) (vs : List V),v = .ref a /\ SqK K t H a vs /\ RepL H ρ xs vs:=by
  cases p with
  | tup ys=>
    obtain ⟨a,vs,e1,e2,_,e3⟩:=r
    cases e
    exact ⟨true,a,vs,e1,show SqT K H a vs from SqT.of e2,e3⟩
  | _=>
    obtain ⟨a,vs,e1,e2,e3⟩:=list_at R r e
    exact ⟨false,a,vs,e1,show SqL K H a vs from .inl e2,e3⟩
theorem sqK_or {K : PySem.W.Frag} {t : Bool} {a : Addr} {vs : List V} (h : SqK K t H a vs) : SqL K H a vs \/ SqT K H a vs:=by
  cases t with
  | true=>exact .inr h
  | false=>exact .inl h
mutual
theorem rep_nil : ∀ {n : Nat} {q : PV} {u : V},good n q = true -> Rep H ρ q u -> Rep H Tk.nil q u
  | _,.non,_,_,r=>r
  | _,.bl _,_,_,r=>r
  | _,.int _,_,_,r=>r
  | _,.str _,_,_,r=>r
  | 0,.tup _,_,g,_=>by cases g
  | 0,.lst _,_,g,_=>by cases g
  | 0,.fro _,_,g,_=>by cases g
  | n + 1,.tup _,_,g,⟨a,vs,e,h,_,r⟩=>⟨a,vs,e,h,Tk.not_nil _,repL_nil g r⟩
  | n + 1,.lst _,_,g,⟨a,vs,e,h,_,r⟩=>⟨a,vs,e,h,Tk.not_nil _,repL_nil g r⟩
  | n + 1,.fro _,_,g,⟨a,vs,e,h,_,r⟩=>⟨a,vs,e,h,Tk.not_nil _,repL_nil g r⟩
  | 0,.ref _,_,g,_=>by cases g
  | _ + 1,.ref _,_,g,_=>by cases g
  | 0,.dic,_,g,_=>by cases g
  | _ + 1,.dic,_,g,_=>by cases g
theorem repL_nil : ∀ {n : Nat} {qs : List PV} {us : List V},qs.all (good n) = true -> RepL H ρ qs us -> RepL H Tk.nil qs us
  | _,[],_,_,r=>r
  | n,q :: qs,_,g,⟨v,r,e,h1,h2⟩=>by
    rw [List.all_cons,Bool.and_eq_true] at g
    exact ⟨v,r,e,rep_nil g.1 h1,repL_nil g.2 h2⟩
end
theorem der_rep (R : Rel H ρ st) {n : Nat} (g : good n (der st p) = true) (r : Rep H ρ p v) : Rep H Tk.nil (der st p) v:=by
  cases p with
  | ref i=>
    obtain ⟨a,e1,e2⟩:=r
    simp only [der] at g ⊢
    split at g
    · rename_i ys hs
      obtain ⟨b,vs,f1,f2,f3⟩:=R.lst hs
      rw [e1] at f1; cases f1
      cases n with
      | zero=>cases g
      | succ n=>exact ⟨a,vs,e2,f2,Tk.not_nil _,repL_nil g f3⟩
    · cases n <;> cases g
  | _=>exact rep_nil g r
theorem new_tup {mg : Str -> Option Value} {E : XK} {Q : VK} {ps : List PV} {vs : List V} (R : Rel H ρ st) (h : Acc mg E H ρ (QV Q) (.ok (.tup ps) st)) (r : RepL H ρ ps vs) : ∀ p,H p = none -> Q (.ref p) (upd H p (.tup vs)):=
  fun p hp=>h _ ρ (Ext.add hp) (R.add hp) _ ⟨p,vs,rfl,upd_same,R.fresh hp,r.ext (Ext.add hp)⟩
theorem new_lst {mg : Str -> Option Value} {E : XK} {Q : VK} {ps : List PV} {vs : List V} (R : Rel H ρ st) (h : Acc mg E H ρ (QV Q) (.ok (.lst ps) st)) (r : RepL H ρ ps vs) : ∀ p,H p = none -> Q (.ref p) (upd H p (.lst vs)):=
  fun p hp=>h _ ρ (Ext.add hp) (R.add hp) _ ⟨p,vs,rfl,upd_same,R.fresh hp,r.ext (Ext.add hp)⟩
theorem now {mg : Str -> Option Value} {E : XK} {Q : VK} {p : PV} (R : Rel H ρ st) (h : Acc mg E H ρ (QV Q) (.ok p st)) (r : Rep H ρ p v) : Q v H:=h H ρ (Ext.refl _ _) R v r
end
section
variable {X : Cx} {E : XK} {pos : Pos}
def mVar (i : Nat) : ME:=fun Γ st=>match Γ[i]? with
  | some (some p)=>.ok p st
  | _=>.stuck
def mC (p : PV) : ME:=fun _ st=>.ok p st
theorem se_var (i : Nat) {x : Str} (hN : X.N[i]? = some x:=by rfl) (hv : Vis X.env.scope x:=by first | exact Or.inl rfl | exact Or.inr (Or.inl rfl) | exact Or.inr (Or.inr rfl)) (hd : (x == ("__debug__" : Str)) = false:=by decide)
    (hcd : (x == ("__classdict__" : Str)) = false:=by decide) : SimE X E (.Name x pos) (mVar i):=⟨fun Γ σ H ρ st Q R G h=>WE.of (pe_var hN hv hd hcd) (by
  unfold mVar at h
  split at h
  · rename_i p e
    obtain ⟨v,e1,r⟩:=G.2 i p e
    exact ⟨v,e1,now R h r⟩
  · exact h.elim)⟩
theorem se_int {i : Int} {j : Nat} : SimE X E (.Constant (.int i) j pos) (mC (.int i)):=⟨fun Γ σ H ρ st Q R G h=>WE.of pe_int (now R h rfl)⟩
theorem se_bl {b : Bool} {j : Nat} : SimE X E (.Constant (.bool b) j pos) (mC (.bl b)):=⟨fun Γ σ H ρ st Q R G h=>WE.of pe_bl (now R h rfl)⟩
theorem se_str {x : Str} {j : Nat} : SimE X E (.Constant (.str x) j pos) (mC (.str x)):=⟨fun Γ σ H ρ st Q R G h=>WE.of pe_str (now R h rfl)⟩
variable {a b c : Expr} {ma mb mc : ME}
def mOp (o : OP) (ma mb : ME) : ME:=fun Γ st=>(ma Γ st).bind fun x st1=>(mb Γ st1).bind fun y st2=>o st2 x y
theorem bin_run {f : Value -> Value -> Sem Value} {o : OP} {Γ : Gam} {σ : St} {H : Hp} {ρ : Tk} {st : Store} {P : PV -> Store -> Hp -> Tk -> Prop} {Q : VK} (ho : OpS X E f o) (ha : SimE X E a ma) (hb : SimE X E b mb) (R : Rel H ρ st) (G : EnvR H ρ Γ σ) (h : Acc X.mg E H ρ P (mOp o ma mb Γ st))
    (k : ∀ p st1 H1 ρ1 v,Ext H ρ H1 ρ1 -> Rel H1 ρ1 st1 -> Rep H1 ρ1 p v -> P p st1 H1 ρ1 -> Q v H1) : tOp (WO X f) (WE X a) (WE X b) σ H Q:=by
  refine ha.use R G h.bind fun p st1 H1 ρ1 v x1 R1 G1 r1 h1=>?_
  refine hb.use R1 G1 h1.bind fun q st2 H2 ρ2 u x2 R2 G2 r2 h2=>?_
  exact ho.use R2 (r1.ext x2) r2 h2 fun w st3 H3 ρ3 z x3 R3 r3 p3=>k w st3 H3 ρ3 z (x1.trans (x2.trans x3)) R3 r3 p3
theorem se_op {op : Operator} {o : OP} (ho : OpS X E (binaryOp op) o) (ha : SimE X E a ma) (hb : SimE X E b mb) : SimE X E (.BinOp a op b pos) (mOp o ma mb):=
  ⟨fun Γ σ H ρ st Q R G h=>WE.of (pe_op op_w pe_w pe_w) (bin_run ho ha hb R G h fun _ _ _ _ v _ _ r q=>q v r)⟩
theorem se_cmp {op : CmpOp} {o : OP} (ho : OpS X E (compareOp op) o) (ha : SimE X E a ma) (hb : SimE X E b mb) (hm : behindInMarks op b = false:=by first | exact nomark _ | rfl) : SimE X E (.Compare a [op] [b] pos) (mOp o ma mb):=
  ⟨fun Γ σ H ρ st Q R G h=>WE.of (pe_cmpR op_w pe_w pe_w hm) (bin_run ho ha hb R G h fun _ _ _ _ v _ _ r q=>q v r)⟩
def asB (p : PV) (st : Store) : Res Bool:=match p with
  | .bl k=>.ok k st
  | _=>.stuck
def toB (m : ME) : Gam -> Store -> Res Bool:=fun Γ st=>(m Γ st).bind asB
theorem acc_b {mg : Str -> Option Value} {H : Hp} {ρ : Tk} {st : Store} {p : PV} {v : V} {P : Bool -> Store -> Hp -> Tk -> Prop} (R : Rel H ρ st) (r : Rep H ρ p v) (h : Acc mg E H ρ P (asB p st)) : ∃ k,v = .bl k /\ P k st H ρ:=by
  cases p with
  | bl k=>exact ⟨k,r,h H ρ (Ext.refl _ _) R⟩
  | _=>exact h.elim
theorem st_cmp {op : CmpOp} {o : OP} (ho : OpS X E (compareOp op) o) (ha : SimE X E a ma) (hb : SimE X E b mb) (hm : behindInMarks op b = false:=by first | exact nomark _ | rfl) : SimT X E (.Compare a [op] [b] pos) (toB (mOp o ma mb)):=
  ⟨fun Γ σ H ρ st Q R G h=>WT.of (pt_cmpR op_w pe_w pe_w hm) (bin_run ho ha hb R G h.bind fun _ st1 _ _ v _ R1 r q=>by
    obtain ⟨k,e,z⟩:=acc_b R1 r q
    exact ⟨k,e,z⟩)⟩
theorem st_val {e : Expr} {m : ME} (h : SimE X E e m) (he : ∀ whole,isTrue e X.env whole = (do let v <- whole; standAt e.pos; holding [v] (truthy v)):=by intro _; rfl) : SimT X E e (toB m):=
  ⟨fun Γ σ H ρ st Q R G hq=>WT.of (pt_val pe_w he) (h.use R G hq.bind fun p st1 H1 ρ1 v x1 R1 G1 r1 h1=>by
    obtain ⟨k,e,z⟩:=acc_b R1 r1 h1
    exact ⟨k,e,z⟩)⟩
def mChain (o o' : OP) (ma mb mc : ME) : ME:=fun Γ st=>(ma Γ st).bind fun x st1=>(mb Γ st1).bind fun y st2=>(o st2 x y).bind fun k st3=>match k with
  | .bl true=>(mc Γ st3).bind fun z st4=>o' st4 y z
  | .bl false=>.ok (.bl false) st3
  | _=>.stuck
theorem chain_run {op op' : CmpOp} {o o' : OP} {Γ : Gam} {σ : St} {H : Hp} {ρ : Tk} {st : Store} {P : PV -> Store -> Hp -> Tk -> Prop} {Q : VK} (ho : OpS X E (compareOp op) o) (ho' : OpS X E (compareOp op') o') (ha : SimE X E a ma) (hb : SimE X E b mb) (hc : SimE X E c mc) (R : Rel H ρ st) (G : EnvR H ρ Γ σ) (h : Acc X.mg E H ρ P (mChain o o' ma mb mc Γ st))
    (k : ∀ p st1 H1 ρ1 v,Ext H ρ H1 ρ1 -> Rel H1 ρ1 st1 -> Rep H1 ρ1 p v -> P p st1 H1 ρ1 -> Q v H1) : tChain (WO X (compareOp op)) (WO X (compareOp op')) (WE X a) (WE X b) (WE X c) σ H Q:=by
  refine ha.use R G h.bind fun p st1 H1 ρ1 v x1 R1 G1 r1 h1=>?_
  refine hb.use R1 G1 h1.bind fun q st2 H2 ρ2 u x2 R2 G2 r2 h2=>?_
  refine ho.use R2 (r1.ext x2) r2 h2.bind fun w st3 H3 ρ3 z x3 R3 r3 h3=>?_
  cases w with
  | bl b=>
    refine ⟨b,r3,?_⟩
    cases b with
    | true=>
      rw [if_pos rfl]
      refine hc.use R3 (G2.ext x3) h3.bind fun y st4 H4 ρ4 yv x4 R4 G4 r4 h4=>?_
      exact ho'.use R4 (r2.ext (x3.trans x4)) r4 h4 fun w st5 H5 ρ5 z x5 R5 r5 p5=>k w st5 H5 ρ5 z (x1.trans (x2.trans (x3.trans (x4.trans x5)))) R5 r5 p5
    | false=>
      rw [if_neg Bool.false_ne_true]
      exact k (.bl false) _ H3 ρ3 _ (x1.trans (x2.trans x3)) R3 rfl (h3 H3 ρ3 (Ext.refl _ _) R3)
  | _=>exact h3.elim
theorem se_chain {op op' : CmpOp} {o o' : OP} (ho : OpS X E (compareOp op) o) (ho' : OpS X E (compareOp op') o') (ha : SimE X E a ma) (hb : SimE X E b mb) (hc : SimE X E c mc) (hm : lastMarks [op,op'] [b,c] = false:=by with_unfolding_all rfl) : SimE X E (.Compare a [op,op'] [b,c] pos) (mChain o o' ma mb mc):=
  ⟨fun Γ σ H ρ st Q R G h=>WE.of (pe_chain op_w op_w pe_w pe_w pe_w hm) (chain_run ho ho' ha hb hc R G h fun _ _ _ _ v _ _ r q=>q v r)⟩
theorem st_chain {op op' : CmpOp} {o o' : OP} (ho : OpS X E (compareOp op) o) (ho' : OpS X E (compareOp op') o') (ha : SimE X E a ma) (hb : SimE X E b mb) (hc : SimE X E c mc) (hm : lastMarks [op,op'] [b,c] = false:=by with_unfolding_all rfl) : SimT X E (.Compare a [op,op'] [b,c] pos) (toB (mChain o o' ma mb mc)):=
  ⟨fun Γ σ H ρ st Q R G h=>WT.of (pt_chain op_w op_w pe_w pe_w pe_w hm) (chain_run ho ho' ha hb hc R G h.bind fun _ st1 _ _ v _ R1 r q=>by
    obtain ⟨k,e,z⟩:=acc_b R1 r q
    exact ⟨k,e,z⟩)⟩
variable {rest : List Expr}
def mAnd (ma mb : ME) : ME:=fun Γ st=>(ma Γ st).bind fun x st1=>match x with
  | .bl true=>mb Γ st1
  | .bl false=>.ok (.bl false) st1
  | _=>.stuck
def mOr (ma mb : ME) : ME:=fun Γ st=>(ma Γ st).bind fun x st1=>match x with
  | .bl true=>.ok (.bl true) st1
  | .bl false=>mb Γ st1
  | _=>.stuck
def mNot (ma : ME) : ME:=fun Γ st=>(ma Γ st).bind fun x st1=>match x with
  | .bl k=>.ok (.bl (!k)) st1
  | _=>.stuck
theorem se_one {op : BoolOp} (ha : SimE X E a ma) : SimE X E (.BoolOp op [a] pos) ma:=⟨fun Γ σ H ρ st Q R G h=>WE.of (pe_one pe_w) (ha.use R G h fun _ _ _ _ v _ _ _ r q=>q v r)⟩
theorem se_and (ha : SimE X E a ma) (hb : SimE X E (.BoolOp .And (b :: rest) pos) mb) : SimE X E (.BoolOp .And (a :: b :: rest) pos) (mAnd ma mb):=
  ⟨fun Γ σ H ρ st Q R G h=>WE.of (pe_and pe_w pe_w) (ha.use R G h.bind fun p st1 H1 ρ1 v x1 R1 G1 r1 h1=>by
    cases p with
    | bl k=>
      refine ⟨k,r1,?_⟩
      cases k with
      | true=>rw [if_pos rfl]; exact hb.use R1 G1 h1 fun _ _ _ _ v _ _ _ r q=>q v r
      | false=>rw [if_neg Bool.false_ne_true]; exact now R1 h1 rfl
    | _=>exact h1.elim)⟩
theorem se_not (ha : SimE X E a ma) : SimE X E (.UnaryOp .Not a pos) (mNot ma):=
  ⟨fun Γ σ H ρ st Q R G h=>WE.of (pe_not pe_w) (ha.use R G h.bind fun p st1 H1 ρ1 v x1 R1 G1 r1 h1=>by
    cases p with
    | bl k=>exact ⟨k,r1,now R1 h1 rfl⟩
    | _=>exact h1.elim)⟩
def mNeg (ma : ME) : ME:=fun Γ st=>(ma Γ st).bind fun x st1=>match x with
  | .int k=>.ok (.int (-k)) st1
  | _=>.stuck
theorem se_neg (ha : SimE X E a ma) : SimE X E (.UnaryOp .USub a pos) (mNeg ma):=
  ⟨fun Γ σ H ρ st Q R G h=>WE.of (pe_un un_neg pe_w) (ha.use R G h.bind fun p st1 H1 ρ1 v x1 R1 G1 r1 h1=>by
    cases p with
    | int k=>exact ⟨k,r1,now R1 h1 rfl⟩
    | _=>exact h1.elim)⟩
abbrev MT:=Gam -> Store -> Res Bool
variable {ta tb : MT}
def tAndM (ta tb : MT) : MT:=fun Γ st=>(ta Γ st).bind fun k st1=>if k = true then tb Γ st1 else .ok false st1
def tOrM (ta tb : MT) : MT:=fun Γ st=>(ta Γ st).bind fun k st1=>if k = true then .ok true st1 else tb Γ st1
def tNotM (ta : MT) : MT:=fun Γ st=>(ta Γ st).bind fun k st1=>.ok (!k) st1
theorem SimW.t {e : Expr} (h : SimW X E e ta) : SimT X E e ta:=⟨fun Γ σ H ρ st Q R G q pins s I=>h.run Γ σ H ρ st Q R G q _ pins s I⟩
theorem sw_and1 (ha : SimT X E a ta) : SimW X E (.BoolOp .And [a] pos) ta:=⟨fun Γ σ H ρ st Q R G h=>WW.of (pw_and1 pt_w) (ha.use R G h fun _ _ _ _ _ _ _ q=>q)⟩
theorem sw_or1 (ha : SimT X E a ta) : SimW X E (.BoolOp .Or [a] pos) ta:=⟨fun Γ σ H ρ st Q R G h=>WW.of (pw_or1 pt_w) (ha.use R G h fun _ _ _ _ _ _ _ q=>q)⟩
theorem sw_and (ha : SimT X E a ta) (hb : SimW X E (.BoolOp .And (b :: rest) pos) tb) : SimW X E (.BoolOp .And (a :: b :: rest) pos) (tAndM ta tb):=
  ⟨fun Γ σ H ρ st Q R G h=>WW.of (pw_and pt_w pw_w) (ha.use R G h.bind fun k st1 H1 ρ1 x1 R1 G1 h1=>by
    cases k with
    | true=>rw [if_pos rfl] at h1 ⊢; exact hb.use R1 G1 h1 fun _ _ _ _ _ _ _ q=>q
    | false=>rw [if_neg Bool.false_ne_true] at h1 ⊢; exact h1 H1 ρ1 (Ext.refl _ _) R1)⟩
theorem sw_or (ha : SimT X E a ta) (hb : SimW X E (.BoolOp .Or (b :: rest) pos) tb) : SimW X E (.BoolOp .Or (a :: b :: rest) pos) (tOrM ta tb):=
  ⟨fun Γ σ H ρ st Q R G h=>WW.of (pw_or pt_w pw_w) (ha.use R G h.bind fun k st1 H1 ρ1 x1 R1 G1 h1=>by
    cases k with
    | true=>rw [if_pos rfl] at h1 ⊢; exact h1 H1 ρ1 (Ext.refl _ _) R1
    | false=>rw [if_neg Bool.false_ne_true] at h1 ⊢; exact hb.use R1 G1 h1 fun _ _ _ _ _ _ _ q=>q)⟩
theorem st_not (ha : SimT X E a ta) : SimT X E (.UnaryOp .Not a pos) (tNotM ta):=
  ⟨fun Γ σ H ρ st Q R G h=>WT.of (pt_not pt_w) (ha.use R G h.bind fun k st1 H1 ρ1 x1 R1 G1 h1=>h1 H1 ρ1 (Ext.refl _ _) R1)⟩
def mIf (tc : MT) (ma mb : ME) : ME:=fun Γ st=>(tc Γ st).bind fun k st1=>if k = true then ma Γ st1 else mb Γ st1
variable {e : Expr} {es : List Expr} {m : ME} {mr : Gam -> Store -> Res (List PV)}
def mNil : Gam -> Store -> Res (List PV):=fun _ st=>.ok [] st
def mCons (m : ME) (mr : Gam -> Store -> Res (List PV)) : Gam -> Store -> Res (List PV):=fun Γ st=>(m Γ st).bind fun p st1=>(mr Γ st1).bind fun ps st2=>.ok (p :: ps) st2
theorem sa_nil : SimA X E [] mNil:=⟨fun Γ σ H ρ st Q R G h=>WA.of pa_nil (h H ρ (Ext.refl _ _) R [] rfl)⟩
theorem sa_cons (ha : SimE X E e m) (hr : SimA X E es mr) (hs : starEach (e :: es) X.env = (false,eval e X.env) :: starEach es X.env:=by rfl) : SimA X E (e :: es) (mCons m mr):=
  ⟨fun Γ σ H ρ st Q R G h=>WA.of (pa_cons pe_w pa_w hs) (ha.use R G h.bind fun p st1 H1 ρ1 v x1 R1 G1 r1 h1=>hr.use R1 G1 h1.bind fun ps st2 H2 ρ2 vs x2 R2 G2 r2 h2=>
    h2 H2 ρ2 (Ext.refl _ _) R2 (v :: vs) ⟨v,vs,rfl,r1.ext x2,r2⟩)⟩
def mTup (mr : Gam -> Store -> Res (List PV)) : ME:=fun Γ st=>(mr Γ st).bind fun ps st1=>if ps.length <= lim then .ok (.tup ps) st1 else .stuck
def mLst (mr : Gam -> Store -> Res (List PV)) : ME:=fun Γ st=>(mr Γ st).bind fun ps st1=>if ps.length <= lim then .ok (.lst ps) st1 else .stuck
theorem se_tup {k : Nat} (h : SimA X E es mr) : SimE X E (.Tuple es k pos) (mTup mr):=
  ⟨fun Γ σ H ρ st Q R G hq=>WE.of (pe_tup pa_w) (h.use R G hq.bind fun ps st1 H1 ρ1 vs x1 R1 G1 r1 h1=>by
    by_cases hl : ps.length <= lim
    · rw [if_pos hl] at h1
      exact ⟨by rw [<- r1.length]; exact le_lim hl,new_tup R1 h1 r1⟩
    · rw [if_neg hl] at h1; exact h1.elim)⟩
theorem se_lst (h : SimA X E es mr) : SimE X E (.List es pos) (mLst mr):=
  ⟨fun Γ σ H ρ st Q R G hq=>WE.of (pe_lst pa_w) (h.use R G hq.bind fun ps st1 H1 ρ1 vs x1 R1 G1 r1 h1=>by
    by_cases hl : ps.length <= lim
    · rw [if_pos hl] at h1
      exact ⟨by rw [<- r1.length]; exact le_lim hl,new_lst R1 h1 r1⟩
    · rw [if_neg hl] at h1; exact h1.elim)⟩
end
end Sm
namespace HT
open PySem PySem.Spec PyProof.Rows
section
variable {prog : Program} {w : World} {A : Around} {E : Value -> Shared -> Prop} {s : Shared}
theorem getItem_tuple_whole {t sl : Addr} {items : Array Value} {vl vu : Value} {lo hi : Option Int} {Q : Value -> Shared -> Prop} (ht : IsTup s.heap t items) (hs : s.heap.IsSliceOf sl vl vu .none) (pl : IsPart vl lo) (pu : IsPart vu hi)
    (hw : sIx items.size 0 lo = 0 /\ sIx items.size items.size hi = items.size)
    (h : Q (.ref t) s) : wpAny (model prog w) A (getItem (.ref t) (.ref sl)) Q E s:=by
  obtain ⟨os,hos,hcs,hds⟩:=id hs
  have hTs : s.TypeIs (.ref sl) "slice" := ⟨os,hos,hcs⟩
  unfold getItem
  try with_reducible refine wpAny_holding ?_
  first | refine wpAny_bind (wpAny_pure ?_) | skip
  refine wpAny_bind (wpAny_sequenceKey ht.typeIs (by decide) ?_)
  refine wpAny_bind (wpAny_callSpecial?_slot (name:=Str.ofString "__getitem__") ht.typeIs PyProof.Rows.slot_tuple_getitem
    (wpAny_call_entry PyProof.Rows.slot_tuple_getitem ht.typeIs entry_tuple_getitem ?_ (args_tuple_getitem _ _)))
  show wpAny _ _ (Builtin.Tuple.tupleItemsOf (.ref t) >>= _) _ _ s
  refine wpAny_bind (tupleItemsOf_ ht ?_)
  refine wpAny_bind (wpAny_typeOf hTs ?_)
  rw [if_pos (by decide)]
  refine wpAny_bind (sliceApplied_gen hs pl pu ?_)
  have hyes : (((sIx items.size 0 lo : Nat) : Int) == 0 && (1 : Int) == 1 && (sIx items.size items.size hi - sIx items.size 0 lo) == items.size) = true:=by
    rw [hw.1,hw.2]; simp
  show wpAny _ _ (if (((sIx items.size 0 lo : Nat) : Int) == 0 && (1 : Int) == 1 && (sIx items.size items.size hi - sIx items.size 0 lo) == items.size) = true then _ else _) _ _ s
  rw [if_pos hyes]
  refine wpAny_bind (wpAny_bind (wpAny_typeOf ht.typeIs (wpAny_pure ?_)))
  rw [if_pos (by rfl)]
  exact wpAny_bind (wpAny_rule (wpAny_pure ⟨_,rfl,wpAny_pure h⟩))
end
end HT
namespace L2
open PySem PySem.Spec PyProof.Rows
def rSlW (K : PySem.W.Frag) : V -> Option Int -> Option Int -> Hp -> VK -> Prop:=fun x lo hi H Q=>∃ a xs,x = .ref a /\ SqT K H a xs /\
  (HT.sIx xs.length 0 lo = 0 /\ HT.sIx xs.length xs.length hi = xs.length) /\ Q (.ref a) H
theorem sl_whole {X : Cx} : SlR X (rSlW X.K):=by
  intro pins s σ H x v vl vu lo hi sl Q I rx hs pl pu h
  obtain ⟨a,xs,rfl,hx,hw,q⟩:=h
  cases rx
  obtain ⟨its,r,ht,hz⟩:=I.tuple hx
  have hlen : its.toArray.size = xs.length:=by rw [List.size_toArray]; exact r.length.symm
  refine ⟨"tuple",_,PyProof.Rows.slot_tuple_getitem.lookup,ht.typeIs,?_⟩
  exact HT.getItem_tuple_whole ht hs pl pu (by rw [hlen]; exact hw) ⟨.ref a,H,I,rfl,q⟩
end L2
namespace Sm
open PySem PySem.Spec L2
section
variable {X : Cx} {E : XK} {pos : Pos}
def oI (g : Int -> Int -> PV) : OP:=fun st p q=>match p,q with
  | .int a,.int b=>.ok (g a b) st
  | _,_=>.stuck
def oAdd : OP:=fun st p q=>match p,q with
  | .int a,.int b=>.ok (.int (a + b)) st
  | .str a,.str b=>if a.length + b.length <= lim then .ok (.str (a ++ b)) st else .stuck
  | .tup xs,.tup ys=>if xs.length + ys.length <= lim then .ok (.tup (xs ++ ys)) st else .stuck
  | p,q=>match lstOf st p,lstOf st q with
    | some xs,some ys=>if xs.length + ys.length <= lim then .ok (.lst (xs ++ ys)) st else .stuck
    | _,_=>.stuck
theorem os_add : OpS X E (binaryOp .Add) oAdd:=⟨fun H ρ st p q x y Q R rp rq h=>by
  unfold oAdd at h
  split at h
  · cases rp; cases rq
    exact WO.of op_add ⟨_,_,rfl,rfl,now R h rfl⟩
  · cases rp; cases rq
    split at h
    · rename_i hl
      exact WO.of op_add_str ⟨_,_,rfl,rfl,le_lim hl,now R h rfl⟩
    · exact h.elim
  · split at h
    · rename_i xs ys hl
      obtain ⟨a,vs,rfl,ha,na,ra⟩:=rp
      obtain ⟨b,us,rfl,hb,nb,rb⟩:=rq
      refine WO.of op_cat2 ?_
      by_cases e : xs = []
      · subst e
        cases ra
        exact .inr ⟨a,b,us,rfl,rfl,SqT.of ha,SqT.of hb,now R h ⟨b,us,rfl,hb,nb,rb⟩⟩
      · refine .inl ⟨a,b,vs,us,rfl,rfl,SqT.of ha,SqT.of hb,fun z=>e ?_,by rw [<- ra.length,<- rb.length]; exact le_lim hl,fun z=>?_,fun z=>new_tup R h (ra.append rb)⟩
        · subst z
          cases xs with
          | nil=>rfl
          | cons _ _=>have:=ra.length; simp at this
        · subst z
          have : ys = []:=by
            cases ys with
            | nil=>rfl
            | cons _ _=>have:=rb.length; simp at this
          subst this
          rw [List.append_nil] at h
          exact now R h ⟨a,vs,rfl,ha,na,ra⟩
    · exact h.elim
  · split at h
    · rename_i xs ys e1 e2
      split at h
      · rename_i hl
        obtain ⟨a,vs,rfl,ha,ra⟩:=lst_at R rp e1
        obtain ⟨b,us,rfl,hb,rb⟩:=lst_at R rq e2
        exact WO.of op_cat ⟨a,b,vs,us,rfl,rfl,ha,hb,by rw [<- ra.length,<- rb.length]; exact le_lim hl,new_lst R h (ra.append rb)⟩
      · exact h.elim
    · exact h.elim⟩
theorem os_sub : OpS X E (binaryOp .Sub) (oI fun a b=>.int (a - b)):=⟨fun H ρ st p q x y Q R rp rq h=>by
  unfold oI at h
  split at h
  · cases rp; cases rq
    exact WO.of op_sub ⟨_,_,rfl,rfl,now R h rfl⟩
  · exact h.elim⟩
def oMul : OP:=fun st p q=>match p,q with
  | .int a,.int b=>if (-(2 ^ 64) < a /\ a < 2 ^ 64) \/ (-(2 ^ 64) < b /\ b < 2 ^ 64) then .ok (.int (a * b)) st else .stuck
  | .tup xs,.int b=>if xs ≠ [] /\ 1 <= b /\ xs.length * b.toNat <= 4096 then .ok (.tup (List.replicate b.toNat xs).flatten) st else .stuck
  | p,.int b=>match lstOf st p with
    | some xs=>if -(2 ^ 63) <= b /\ b < 2 ^ 63 /\ xs.length * b.toNat <= lim then .ok (.lst (List.replicate b.toNat xs).flatten) st else .stuck
    | none=>.stuck
  | _,_=>.stuck
theorem os_mul : OpS X E (binaryOp .Mult) oMul:=⟨fun H ρ st p q x y Q R rp rq h=>by
  unfold oMul at h
  split at h
  · cases rp; cases rq
    split at h
    · rename_i hc
      exact WO.of op_mul ⟨_,_,rfl,rfl,hc,now R h rfl⟩
    · exact h.elim
  · cases rq
    split at h
    · rename_i xs b hc
      obtain ⟨a,vs,rfl,ha,na,ra⟩:=rp
      refine WO.of op_repT ⟨a,b,vs,rfl,rfl,SqT.of ha,fun z=>hc.1 ?_,hc.2.1,by rw [<- ra.length]; exact hc.2.2,fun z=>?_,fun z=>new_tup R h (ra.rep _)⟩
      · subst z
        cases xs with
        | nil=>rfl
        | cons _ _=>have:=ra.length; simp at this
      · subst z
        have e1 : (List.replicate (Int.toNat 1) xs).flatten = xs:=by simp
        rw [e1] at h
        exact now R h ⟨a,vs,rfl,ha,na,ra⟩
    · exact h.elim
  · cases rq
    split at h
    · rename_i xs e1
      split at h
      · rename_i hc
        obtain ⟨a,vs,rfl,ha,ra⟩:=lst_at R rp e1
        exact WO.of op_rep ⟨a,_,vs,rfl,rfl,ha,hc.1,hc.2.1,by rw [<- ra.length]; exact le_lim hc.2.2,new_lst R h (ra.rep _)⟩
      · exact h.elim
    · exact h.elim
  · exact h.elim⟩
def oMod : OP:=fun st p q=>match p,q with
  | .int a,.int b=>if 0 < b then .ok (.int (a % b)) st else .stuck
  | _,_=>.stuck
theorem os_mod : OpS X E (binaryOp .Mod) oMod:=⟨fun H ρ st p q x y Q R rp rq h=>by
  unfold oMod at h
  split at h
  · cases rp; cases rq
    split at h
    · rename_i hc
      exact WO.of op_mod ⟨_,_,rfl,rfl,hc,now R h rfl⟩
    · exact h.elim
  · exact h.elim⟩
def oDiv : OP:=fun st p q=>match p,q with
  | .int a,.int b=>if 0 < b /\ b < 1073741824 then .ok (.int (a / b)) st else .stuck
  | _,_=>.stuck
theorem os_div : OpS X E (binaryOp .FloorDiv) oDiv:=⟨fun H ρ st p q x y Q R rp rq h=>by
  unfold oDiv at h
  split at h
  · cases rp; cases rq
    split at h
    · rename_i hc
      exact WO.of op_fdiv ⟨_,_,rfl,rfl,hc,now R h rfl⟩
    · exact h.elim
  · exact h.elim⟩
def oPow : OP:=fun st p q=>match p,q with
  | .int a,.int b=>if 0 <= b /\ b <= 1000000 /\ a.natAbs < 2 ^ 64 then .ok (.int (a ^ b.toNat)) st else .stuck
  | _,_=>.stuck
theorem os_pow : OpS X E (binaryOp .Pow) oPow:=⟨fun H ρ st p q x y Q R rp rq h=>by
  unfold oPow at h
  split at h
  · cases rp; cases rq
    split at h
    · rename_i hc
      exact WO.of op_pow ⟨_,_,rfl,rfl,hc,now R h rfl⟩
    · exact h.elim
  · exact h.elim⟩
theorem oI_cmp {op : CmpOp} {g : Int -> Int -> Bool} (ho : OpR X (compareOp op) (rI0 fun i j=>.bl (g i j))) : OpS X E (compareOp op) (oI fun a b=>.bl (g a b)):=⟨fun H ρ st p q x y Q R rp rq h=>by
  unfold oI at h
  split at h
  · cases rp; cases rq
    exact WO.of ho ⟨_,_,rfl,rfl,now R h rfl⟩
  · exact h.elim⟩
theorem os_le : OpS X E (compareOp .LtE) (oI fun a b=>.bl (decide (a <= b))):=oI_cmp op_le
theorem os_ge : OpS X E (compareOp .GtE) (oI fun a b=>.bl (decide (b <= a))):=oI_cmp op_ge
def intsOf : List PV -> Option (List Int)
  | []=>some []
  | .int i :: ps=>(intsOf ps).map (i :: ·)
  | _ :: _=>none
def blsOf : List PV -> Option (List Bool)
  | []=>some []
  | .bl i :: ps=>(blsOf ps).map (i :: ·)
  | _ :: _=>none
theorem ints_map (ns : List Int) : intsOf (ns.map .int) = some ns:=by
  induction ns with
  | nil=>rfl
  | cons n ns ih=>rw [List.map_cons,intsOf,ih]; rfl
theorem bls_map (ns : List Bool) : blsOf (ns.map .bl) = some ns:=by
  induction ns with
  | nil=>rfl
  | cons n ns ih=>rw [List.map_cons,blsOf,ih]; rfl
theorem ints_eq : ∀ {ps : List PV} {ns : List Int},intsOf ps = some ns -> ps = ns.map .int
  | [],ns,h=>by cases h; rfl
  | .int i :: ps,ns,h=>by
    rw [intsOf] at h
    cases e : intsOf ps with
    | none=>rw [e] at h; cases h
    | some ms=>rw [e] at h; cases h; rw [ints_eq e]; rfl
  | .non :: _,_,h | .bl _ :: _,_,h | .str _ :: _,_,h | .tup _ :: _,_,h | .lst _ :: _,_,h | .fro _ :: _,_,h | .ref _ :: _,_,h | .dic :: _,_,h=>by cases h
theorem bls_eq : ∀ {ps : List PV} {ns : List Bool},blsOf ps = some ns -> ps = ns.map .bl
  | [],ns,h=>by cases h; rfl
  | .bl i :: ps,ns,h=>by
    rw [blsOf] at h
    cases e : blsOf ps with
    | none=>rw [e] at h; cases h
    | some ms=>rw [e] at h; cases h; rw [bls_eq e]; rfl
  | .non :: _,_,h | .int _ :: _,_,h | .str _ :: _,_,h | .tup _ :: _,_,h | .lst _ :: _,_,h | .fro _ :: _,_,h | .ref _ :: _,_,h | .dic :: _,_,h=>by cases h
def oLt : OP:=fun st p q=>match p,q with
  | .int a,.int b=>.ok (.bl (decide (a < b))) st
  | .tup xs,.tup ys=>match intsOf xs,intsOf ys with
    | some ns,some ms=>.ok (.bl (HT.lexLt ns ms)) st
    | _,_=>.stuck
  | _,_=>.stuck
theorem os_lt (hu : X.A.units + 64 < cLine) : OpS X E (compareOp .Lt) oLt:=⟨fun H ρ st p q x y Q R rp rq h=>by
  unfold oLt at h
  split at h
  · cases rp; cases rq
    exact WO.of op_lt ⟨_,_,rfl,rfl,now R h rfl⟩
  · split at h
    · rename_i ns ms e1 e2
      obtain ⟨a,vs,rfl,ha,na,ra⟩:=rp
      obtain ⟨b,us,rfl,hb,nb,rb⟩:=rq
      rw [ints_eq e1] at ra
      rw [ints_eq e2] at rb
      rw [ra.toInts] at ha
      rw [rb.toInts] at hb
      exact WO.of (op_ltT (by omega)) ⟨a,b,ns,ms,rfl,rfl,SqT.of ha,SqT.of hb,now R h rfl⟩
    · exact h.elim
  · exact h.elim⟩
def dep : Nat:=12
def oEq : OP:=fun st p q=>if good dep (der st p) = true /\ good dep (der st q) = true then .ok (.bl (peq (der st p) (der st q))) st else .stuck
def oNe : OP:=fun st p q=>if good dep (der st p) = true /\ good dep (der st q) = true then .ok (.bl (!peq (der st p) (der st q))) st else .stuck
theorem os_eq (hu : X.A.units + 64 < cLine) : OpS X E (compareOp .Eq) oEq:=⟨fun H ρ st p q x y Q R rp rq h=>by
  unfold oEq at h
  split at h
  · rename_i g
    intro pins s σ v u I rv ru
    exact (eqAts dep I g.1 g.2 (by unfold dep; omega) (der_rep R g.1 rp) rv (der_rep R g.2 rq) ru).2.1 _ _ _ _ ⟨.bl _,H,I,rfl,now R h rfl⟩
  · exact h.elim⟩
theorem os_ne (hu : X.A.units + 64 < cLine) : OpS X E (compareOp .NotEq) oNe:=⟨fun H ρ st p q x y Q R rp rq h=>by
  unfold oNe at h
  split at h
  · rename_i g
    intro pins s σ v u I rv ru
    exact (eqAts dep I g.1 g.2 (by unfold dep; omega) (der_rep R g.1 rp) rv (der_rep R g.2 rq) ru).2.2 _ _ _ _ ⟨.bl _,H,I,rfl,now R h rfl⟩
  · exact h.elim⟩
def isNon : PV -> Bool
  | .non=>true
  | _=>false
def oIs : OP:=fun st p q=>match q with
  | .non=>.ok (.bl (isNon p)) st
  | .bl c=>match p with
    | .bl b=>.ok (.bl (b == c)) st
    | _=>.stuck
  | _=>.stuck
def oIsNot : OP:=fun st p q=>match q with
  | .non=>.ok (.bl (!isNon p)) st
  | .bl c=>match p with
    | .bl b=>.ok (.bl (b != c)) st
    | _=>.stuck
  | _=>.stuck
end
end Sm
namespace Sm
open PySem PySem.Spec L2
section
variable {H : Hp} {ρ : Tk}
theorem RepL.atI {ps : List PV} {vs : List V} {i : Int} {p : PV} (r : RepL H ρ ps vs) (e : atI ps i = some p) : ∃ v,L2.atI vs i = some v /\ Rep H ρ p v:=by
  unfold L2.atI at e ⊢
  rw [<- r.length]
  cases q : ixN ps.length i with
  | none=>rw [q] at e; cases e
  | some j=>
    rw [q] at e
    exact r.get e
def cut {α : Type} (xs : List α) (lo hi : Option Int) : List α:=(xs.drop (HT.sIx xs.length 0 lo)).take (HT.sIx xs.length xs.length hi - HT.sIx xs.length 0 lo)
theorem RepL.cut {ps : List PV} {vs : List V} (r : RepL H ρ ps vs) (lo hi : Option Int) : RepL H ρ (Sm.cut ps lo hi) (cutV vs lo hi):=by
  unfold Sm.cut cutV
  rw [<- r.length]
  exact (r.drop _).take _
end
section
variable {X : Cx} {E : XK} {pos : Pos} {a b : Expr} {ma mb : ME}
def oIx : OP:=fun st p q=>match seqOf st p,q with
  | some xs,.int i=>okO st (atI xs i)
  | _,_=>.stuck
theorem se_ix (ha : SimE X E a ma) (hb : SimE X E b mb) (hs : PlainIx b:=by exact fun _ _=>rfl) : SimE X E (.Subscript a b pos) (mOp oIx ma mb):=
  ⟨fun Γ σ H ρ st Q R G h=>WE.of (pe_ix ix_seq pe_w pe_w hs) (ha.use R G h.bind fun p st1 H1 ρ1 v x1 R1 G1 r1 h1=>hb.use R1 G1 h1.bind fun q st2 H2 ρ2 u x2 R2 G2 r2 h2=>by
    unfold oIx at h2
    split at h2
    · rename_i xs i e
      cases r2
      cases ea : atI xs i with
      | none=>rw [ea] at h2; exact h2.elim
      | some w=>
        rw [ea] at h2
        obtain ⟨t,b,vs,rfl,hq,ra⟩:=seq_at (K:=X.K) R2 (r1.ext x2) e
        obtain ⟨z,ez,rz⟩:=ra.atI ea
        cases t with
        | true=>exact .inr (.inl ⟨b,vs,i,z,rfl,rfl,hq,ez,now R2 h2 rz⟩)
        | false=>exact .inl ⟨b,vs,i,z,rfl,rfl,hq,ez,now R2 h2 rz⟩
    · exact h2.elim)⟩
structure SimO (X : Cx) (E : XK) (o : Option Expr) (m : Gam -> Store -> Res (Option Int)) : Prop where
  run : ∀ (Γ : Gam) (σ : St) (H : Hp) (ρ : Tk) (st : Store) (P : Option Int -> Store -> Hp -> Tk -> Prop) (Q : Option Int -> Hp -> Prop),Rel H ρ st -> EnvR H ρ Γ σ -> Acc X.mg E H ρ P (m Γ st) ->
    (∀ i st1 H1 ρ1,Ext H ρ H1 ρ1 -> Rel H1 ρ1 st1 -> EnvR H1 ρ1 Γ σ -> P i st1 H1 ρ1 -> Q i H1) -> ∃ t,PO X o t /\ t σ H Q
def mNoPart : Gam -> Store -> Res (Option Int):=fun _ st=>.ok none st
def mPart (m : ME) : Gam -> Store -> Res (Option Int):=fun Γ st=>(m Γ st).bind fun p st1=>match p with
  | .int i=>.ok (some i) st1
  | _=>.stuck
theorem so_none : SimO X E none mNoPart:=⟨fun Γ σ H ρ st P Q R G h k=>⟨_,po_none,k none st H ρ (Ext.refl _ _) R G (h H ρ (Ext.refl _ _) R)⟩⟩
theorem so_some (ha : SimE X E a ma) : SimO X E (some a) (mPart ma):=⟨fun Γ σ H ρ st P Q R G h k=>⟨_,po_some pe_w,ha.use R G h.bind fun p st1 H1 ρ1 v x1 R1 G1 r1 h1=>by
  cases p with
  | int i=>exact ⟨i,r1,k (some i) st1 H1 ρ1 x1 R1 G1 (h1 H1 ρ1 (Ext.refl _ _) R1)⟩
  | _=>exact h1.elim⟩⟩
def oSl (st : Store) (p : PV) (lo hi : Option Int) : Res PV:=match p with
  | .tup xs=>.ok (.tup (cut xs lo hi)) st
  | p=>match listOf st p with
    | some xs=>.ok (.lst (cut xs lo hi)) st
    | none=>.stuck
def mSl (ma : ME) (ml mh : Gam -> Store -> Res (Option Int)) : ME:=fun Γ st=>(ma Γ st).bind fun p st1=>(ml Γ st1).bind fun lo st2=>(mh Γ st2).bind fun hi st3=>oSl st3 p lo hi
def TO.w (X : Cx) (o : Option Expr) : TO:=fun σ H Q=>∃ t,PO X o t /\ t σ H Q
theorem po_w {o : Option Expr} : PO X o (TO.w X o):=fun pins s σ H Q I ⟨t,h,q⟩=>h pins s σ H Q I q
theorem se_slice {lo hi : Option Expr} {ml mh : Gam -> Store -> Res (Option Int)} {p2 : Pos} (ha : SimE X E a ma) (hl : SimO X E lo ml) (hh : SimO X E hi mh) : SimE X E (.Subscript a (.Slice lo hi none p2) pos) (mSl ma ml mh):=
  ⟨fun Γ σ H ρ st Q R G h=>WE.of (pe_slice (sl_tup.or (sl_whole.or sl_list)) pe_w po_w po_w) (ha.use R G h.bind fun p st1 H1 ρ1 v x1 R1 G1 r1 h1=>by
    refine hl.run Γ σ H1 ρ1 st1 _ _ R1 G1 h1.bind fun l st2 H2 ρ2 x2 R2 G2 h2=>?_
    refine hh.run Γ σ H2 ρ2 st2 _ _ R2 G2 h2.bind fun u st3 H3 ρ3 x3 R3 G3 h3=>?_
    have r3:=r1.ext (x2.trans x3)
    unfold oSl at h3
    split at h3
    · rename_i xs
      obtain ⟨a,vs,rfl,ha,na,ra⟩:=r3
      by_cases hw : HT.sIx vs.length 0 l = 0 /\ HT.sIx vs.length vs.length u = vs.length
      · refine .inr (.inl ⟨a,vs,rfl,SqT.of ha,hw,?_⟩)
        have e : cut xs l u = xs:=by
          unfold cut
          rw [ra.length,hw.1,hw.2,List.drop_zero,Nat.sub_zero,<- ra.length,List.take_length]
        rw [e] at h3
        exact now R3 h3 ⟨a,vs,rfl,ha,na,ra⟩
      · exact .inl ⟨a,vs,rfl,SqT.of ha,hw,new_tup R3 h3 (ra.cut l u)⟩
    · split at h3
      · rename_i xs e
        obtain ⟨a,vs,rfl,ha,ra⟩:=list_at R3 r3 e
        exact .inr (.inr ⟨a,vs,rfl,.inl ha,new_lst R3 h3 (ra.cut l u)⟩)
      · exact h3.elim)⟩
variable {es : List Expr} {e : Expr} {mr : Gam -> Store -> Res (List PV)}
def mCall (o : CF) (mr : Gam -> Store -> Res (List PV)) : ME:=fun Γ st=>(mr Γ st).bind fun ps st1=>o st1 ps
theorem CallS.use {f : Value} {o : CF} (s : CallS X E f o) {P : PV -> Store -> Hp -> Tk -> Prop} {Q : VK} {H : Hp} {ρ : Tk} {st : Store} {ps : List PV} {xs : List V} (R : Rel H ρ st) (rp : RepL H ρ ps xs) (h : Acc X.mg E H ρ P (o st ps))
    (k : ∀ p st1 H1 ρ1 v,Ext H ρ H1 ρ1 -> Rel H1 ρ1 st1 -> Rep H1 ρ1 p v -> P p st1 H1 ρ1 -> Q v H1) : WC X f xs H Q:=by
  refine s.run H ρ st ps xs Q R rp ?_
  cases r : o st ps with
  | ok p st1=>rw [r] at h; exact fun H' ρ' x' R' v rv=>k p st1 H' ρ' v x' R' rv (h H' ρ' x' R')
  | exc e st=>rw [r] at h; exact h
  | stuck=>rw [r] at h; exact h
theorem se_callB {id : String} {x : Str} {p : Pos} {o : CF} (hc : CallS X E (.builtin id) o) (hg : Gl X x) (hm : X.mg x = none) (hv : bootBuiltins x = some (.builtin id)) (ha : SimA X E (e :: es) mr) (hn : x ≠ "__name__" := by decide) (hdb : (x == ("__debug__" : Str)) = false:=by decide)
    (he : starEach (e :: es) X.env = (false,eval e X.env) :: starEach es X.env:=by rfl) (hpl : (backTo pos (starEach es X.env)).any (·.1) = false:=by rfl) : SimE X E (.Call (.Name x p) (e :: es) [] pos) (mCall o mr):=
  ⟨fun Γ σ H ρ st Q R G h=>WE.of (pe_callB call_w hg hm hv pa_w hn hdb he hpl) (ha.use R G h.bind fun ps st1 H1 ρ1 vs x1 R1 G1 r1 h1=>hc.use R1 r1 h1 fun _ _ _ _ v _ _ r q=>q v r)⟩
theorem se_callT {T : String} {x : Str} {p : Pos} {o : CF} (hc : CallS X E (.type T) o) (hg : Gl X x) (hm : X.mg x = none) (hv : bootBuiltins x = some (.type T)) (ha : SimA X E (e :: es) mr) (hn : x ≠ "__name__" := by decide) (hdb : (x == ("__debug__" : Str)) = false:=by decide)
    (he : starEach (e :: es) X.env = (false,eval e X.env) :: starEach es X.env:=by rfl) (hpl : (backTo pos (starEach es X.env)).any (·.1) = false:=by rfl) : SimE X E (.Call (.Name x p) (e :: es) [] pos) (mCall o mr):=
  ⟨fun Γ σ H ρ st Q R G h=>WE.of (pe_callTy call_w hg hm hv pa_w hn hdb he hpl) (ha.use R G h.bind fun ps st1 H1 ρ1 vs x1 R1 G1 r1 h1=>hc.use R1 r1 h1 fun _ _ _ _ v _ _ r q=>q v r)⟩
theorem repL_one {H : Hp} {ρ : Tk} {p : PV} {xs : List V} (r : RepL H ρ [p] xs) : ∃ v,xs = [v] /\ Rep H ρ p v:=by
  obtain ⟨v,t,rfl,h1,h2⟩:=r
  cases h2
  exact ⟨v,rfl,h1⟩
theorem repL_two {H : Hp} {ρ : Tk} {p q : PV} {xs : List V} (r : RepL H ρ [p,q] xs) : ∃ v u,xs = [v,u] /\ Rep H ρ p v /\ Rep H ρ q u:=by
  obtain ⟨v,t,rfl,h1,h2⟩:=r
  obtain ⟨u,rfl,h3⟩:=repL_one h2
  exact ⟨v,u,rfl,h1,h3⟩
def cLen : CF:=fun st ps=>match ps with
  | [p]=>match seqOf st p with
    | some xs=>.ok (.int xs.length) st
    | none=>match p with
      | .str x=>if x.length <= lim then .ok (.int x.length) st else .stuck
      | _=>.stuck
  | _=>.stuck
theorem cs_len : CallS X E (.builtin "len") cLen:=⟨fun H ρ st ps xs Q R rp h=>by
  unfold cLen at h
  split at h
  · rename_i p
    obtain ⟨v,rfl,r⟩:=repL_one rp
    split at h
    · rename_i ys e
      obtain ⟨t,a,vs,rfl,hq,ra⟩:=seq_at (K:=X.K) R r e
      rw [ra.length] at h
      exact WC.of call_len_seq ⟨a,vs,rfl,sqK_or hq,now R h rfl⟩
    · split at h
      · cases r
        split at h
        · rename_i hl
          exact WC.of call_len_str ⟨_,rfl,le_lim hl,now R h rfl⟩
        · exact h.elim
      · exact h.elim
  · exact h.elim⟩
def cInts (g : List Int -> Option PV) : CF:=fun st ps=>match ps with
  | [p]=>match (seqOf st p).bind intsOf with
    | some ns=>okO st (g ns)
    | none=>.stuck
  | _=>.stuck
def cBls (g : List Bool -> PV) : CF:=fun st ps=>match ps with
  | [p]=>match (seqOf st p).bind blsOf with
    | some ns=>.ok (g ns) st
    | none=>.stuck
  | _=>.stuck
theorem ints_at' {K : PySem.W.Frag} {H : Hp} {ρ : Tk} {st : Store} {p : PV} {v : V} {ns : List Int} (R : Rel H ρ st) (r : Rep H ρ p v) (e : (seqOf st p).bind intsOf = some ns) : ∃ (t : Bool) (a : Addr),v = .ref a /\ SqK K t H a (ns.map V.int):=by
  cases q : seqOf st p with
  | none=>rw [q] at e; cases e
  | some xs=>
    rw [q] at e
    obtain ⟨t,a,vs,rfl,hq,ra⟩:=seq_at (K:=K) R r q
    rw [ints_eq e] at ra
    rw [ra.toInts] at hq
    exact ⟨t,a,rfl,hq⟩
theorem bls_at' {K : PySem.W.Frag} {H : Hp} {ρ : Tk} {st : Store} {p : PV} {v : V} {ns : List Bool} (R : Rel H ρ st) (r : Rep H ρ p v) (e : (seqOf st p).bind blsOf = some ns) : ∃ (t : Bool) (a : Addr),v = .ref a /\ SqK K t H a (ns.map V.bl):=by
  cases q : seqOf st p with
  | none=>rw [q] at e; cases e
  | some xs=>
    rw [q] at e
    obtain ⟨t,a,vs,rfl,hq,ra⟩:=seq_at (K:=K) R r q
    rw [bls_eq e] at ra
    rw [ra.toBls] at hq
    exact ⟨t,a,rfl,hq⟩
theorem cs_sum (hc : X.calm = true) : CallS X E (.builtin "sum") (cInts fun ns=>some (.int ns.sum)):=⟨fun H ρ st ps xs Q R rp h=>by
  unfold cInts at h
  split at h
  · obtain ⟨v,rfl,r⟩:=repL_one rp
    split at h
    · rename_i ns e
      obtain ⟨t,a,rfl,hq⟩:=ints_at' (K:=X.K) R r e
      exact WC.of (call_sum t hc) ⟨a,ns,rfl,hq,now R h rfl⟩
    · exact h.elim
  · exact h.elim⟩
theorem cs_all (hc : X.calm = true) : CallS X E (.builtin "all") (cBls fun ns=>.bl (ns.all id)):=⟨fun H ρ st ps xs Q R rp h=>by
  unfold cBls at h
  split at h
  · obtain ⟨v,rfl,r⟩:=repL_one rp
    split at h
    · rename_i ns e
      obtain ⟨t,a,rfl,hq⟩:=bls_at' (K:=X.K) R r e
      exact WC.of (call_all t hc) ⟨a,ns,rfl,hq,now R h rfl⟩
    · exact h.elim
  · exact h.elim⟩
def maxI : List Int -> Option Int
  | []=>none
  | n :: ns=>some (ns.foldl (fun a b=>if b > a then b else a) n)
def minI : List Int -> Option Int
  | []=>none
  | n :: ns=>some (ns.foldl (fun a b=>if b < a then b else a) n)
theorem foldl_max : ∀ (ns : List Int) (n : Int),(ns.foldl (fun a b=>if b > a then b else a) n = n \/ ns.foldl (fun a b=>if b > a then b else a) n ∈ ns) /\ n <= ns.foldl (fun a b=>if b > a then b else a) n /\ ∀ k ∈ ns,k <= ns.foldl (fun a b=>if b > a then b else a) n
  | [],n=>⟨.inl rfl,Int.le_refl _,fun k h=>by cases h⟩
  | m :: ns,n=>by
    obtain ⟨h1,h2,h3⟩:=foldl_max ns (if m > n then m else n)
    rw [List.foldl_cons]
    refine ⟨?_,?_,fun k hk=>?_⟩
    · rcases h1 with e | e
      · by_cases hm : m > n
        · rw [if_pos hm] at e ⊢; exact .inr (by rw [e]; exact List.mem_cons_self)
        · rw [if_neg hm] at e ⊢; exact .inl e
      · exact .inr (List.mem_cons_of_mem _ e)
    · by_cases hm : m > n
      · rw [if_pos hm] at h2 ⊢; omega
      · rw [if_neg hm] at h2 ⊢; exact h2
    · rcases List.mem_cons.mp hk with rfl | hk
      · by_cases hm : k > n
        · rw [if_pos hm] at h2 ⊢; exact h2
        · rw [if_neg hm] at h2 ⊢; omega
      · exact h3 k hk
theorem foldl_min : ∀ (ns : List Int) (n : Int),(ns.foldl (fun a b=>if b < a then b else a) n = n \/ ns.foldl (fun a b=>if b < a then b else a) n ∈ ns) /\ ns.foldl (fun a b=>if b < a then b else a) n <= n /\ ∀ k ∈ ns,ns.foldl (fun a b=>if b < a then b else a) n <= k
  | [],n=>⟨.inl rfl,Int.le_refl _,fun k h=>by cases h⟩
  | m :: ns,n=>by
    obtain ⟨h1,h2,h3⟩:=foldl_min ns (if m < n then m else n)
    rw [List.foldl_cons]
    refine ⟨?_,?_,fun k hk=>?_⟩
    · rcases h1 with e | e
      · by_cases hm : m < n
        · rw [if_pos hm] at e ⊢; exact .inr (by rw [e]; exact List.mem_cons_self)
        · rw [if_neg hm] at e ⊢; exact .inl e
      · exact .inr (List.mem_cons_of_mem _ e)
    · by_cases hm : m < n
      · rw [if_pos hm] at h2 ⊢; omega
      · rw [if_neg hm] at h2 ⊢; exact h2
    · rcases List.mem_cons.mp hk with rfl | hk
      · by_cases hm : k < n
        · rw [if_pos hm] at h2 ⊢; exact h2
        · rw [if_neg hm] at h2 ⊢; omega
      · exact h3 k hk
def cMax : CF:=fun st ps=>match ps with
  | [.int a,.int b]=>.ok (.int (if b > a then b else a)) st
  | ps=>cInts (fun ns=>(maxI ns).map .int) st ps
def cMin : CF:=fun st ps=>match ps with
  | [.int a,.int b]=>.ok (.int (if b < a then b else a)) st
  | ps=>cInts (fun ns=>(minI ns).map .int) st ps
theorem cs_max (hc : X.calm = true) : CallS X E (.builtin "max") cMax:=⟨fun H ρ st ps xs Q R rp h=>by
  unfold cMax at h
  split at h
  · obtain ⟨v,u,rfl,r1,r2⟩:=repL_two rp
    cases r1; cases r2
    exact WC.of (call_max2 hc) ⟨_,_,rfl,now R h rfl⟩
  · unfold cInts at h
    split at h
    · obtain ⟨v,rfl,r⟩:=repL_one rp
      split at h
      · rename_i ns e
        cases ns with
        | nil=>exact h.elim
        | cons n ns=>
          obtain ⟨t,a,rfl,hq⟩:=ints_at' (K:=X.K) R r e
          refine WC.of (call_maxL t hc) ⟨a,_,rfl,hq,by simp,fun m hm hk=>?_⟩
          have em : m = ns.foldl (fun a b=>if b > a then b else a) n:=by
            obtain ⟨h1,h2,h3⟩:=foldl_max ns n
            have g1 : ns.foldl (fun a b=>if b > a then b else a) n <= m:=by
              rcases h1 with e | e
              · rw [e]; exact hk _ List.mem_cons_self
              · exact hk _ (List.mem_cons_of_mem _ e)
            have g2 : m <= ns.foldl (fun a b=>if b > a then b else a) n:=by
              rcases List.mem_cons.mp hm with rfl | hm
              · exact h2
              · exact h3 m hm
            omega
          subst em
          exact now R h rfl
      · exact h.elim
    · exact h.elim⟩
theorem cs_min (hc : X.calm = true) : CallS X E (.builtin "min") cMin:=⟨fun H ρ st ps xs Q R rp h=>by
  unfold cMin at h
  split at h
  · obtain ⟨v,u,rfl,r1,r2⟩:=repL_two rp
    cases r1; cases r2
    exact WC.of (call_min2 hc) ⟨_,_,rfl,now R h rfl⟩
  · unfold cInts at h
    split at h
    · obtain ⟨v,rfl,r⟩:=repL_one rp
      split at h
      · rename_i ns e
        cases ns with
        | nil=>exact h.elim
        | cons n ns=>
          obtain ⟨t,a,rfl,hq⟩:=ints_at' (K:=X.K) R r e
          refine WC.of (call_minL t hc) ⟨a,_,rfl,hq,by simp,fun m hm hk=>?_⟩
          have em : m = ns.foldl (fun a b=>if b < a then b else a) n:=by
            obtain ⟨h1,h2,h3⟩:=foldl_min ns n
            have g1 : m <= ns.foldl (fun a b=>if b < a then b else a) n:=by
              rcases h1 with e | e
              · rw [e]; exact hk _ List.mem_cons_self
              · exact hk _ (List.mem_cons_of_mem _ e)
            have g2 : ns.foldl (fun a b=>if b < a then b else a) n <= m:=by
              rcases List.mem_cons.mp hm with rfl | hm
              · exact h2
              · exact h3 m hm
            omega
          subst em
          exact now R h rfl
      · exact h.elim
    · exact h.elim⟩
def cList : CF:=fun st ps=>match ps with
  | [p]=>match seqOf st p with
    | some xs=>.ok (.lst xs) st
    | none=>.stuck
  | _=>.stuck
def cTuple : CF:=fun st ps=>match ps with
  | [p]=>match seqOf st p with
    | some xs=>.ok (.tup xs) st
    | none=>.stuck
  | _=>.stuck
theorem cs_tuple : CallS X E (.type "tuple") cTuple:=⟨fun H ρ st ps xs Q R rp h=>by
  unfold cTuple at h
  split at h
  · rename_i p
    obtain ⟨v,rfl,r⟩:=repL_one rp
    split at h
    · rename_i ys e
      cases p with
      | tup zs=>
        cases e
        obtain ⟨a,vs,rfl,ha,na,ra⟩:=r
        exact WC.of call_tuple_of ⟨a,vs,rfl,.inr ⟨SqT.of ha,now R h ⟨a,vs,rfl,ha,na,ra⟩⟩⟩
      | _=>
        obtain ⟨a,vs,rfl,ha,ra⟩:=list_at R r e
        exact WC.of call_tuple_of ⟨a,vs,rfl,.inl ⟨.inl ha,new_tup R h ra⟩⟩
    · exact h.elim
  · exact h.elim⟩
def cAbs : CF:=fun st ps=>match ps with
  | [.int a]=>.ok (.int (if a < 0 then -a else a)) st
  | _=>.stuck
def tyN : PV -> String
  | .non => "NoneType"
  | .bl _ => "bool"
  | .int _ => "int"
  | .str _ => "str"
  | .tup _ => "tuple"
  | .lst _ => "list"
  | .fro _ => "list"
  | .ref _ => "list"
  | .dic => "dict"
def dpv (st : Store) : PV -> PV
  | .ref i=>match st[i]? with
    | some (.dic _)=>.dic
    | some (.dtp _)=>.dic
    | _=>.ref i
  | p=>p
def isI (T : String) (p : PV) : Bool:=tyN p == T || (T == "int" && tyN p == "bool")
theorem ty_of {K : PySem.W.Frag} {H : Hp} {ρ : Tk} {st : Store} {p : PV} {v : V} (R : Rel H ρ st) (r : Rep H ρ p v) : TyOf K H v (.type (tyN (dpv st p))):=by
  cases p with
  | non=>cases r; exact .non
  | bl b=>cases r; exact .bl b
  | int i=>cases r; exact .int i
  | str x=>cases r; exact .str x
  | tup ps=>obtain ⟨a,vs,rfl,h,_⟩:=r; exact .tup h
  | lst ps=>obtain ⟨a,vs,rfl,h,_⟩:=r; exact .lst h
  | fro ps=>
    obtain ⟨a,vs,rfl,h,_⟩:=r
    rcases h with h | ⟨o,h⟩
    · exact .lst h
    · exact .frz h
  | ref i=>
    obtain ⟨a,e,rfl⟩:=r
    have hl : i < st.length:=by rw [<- R.len]; exact (List.getElem?_eq_some_iff.mp e).1
    have hs:=List.getElem?_eq_getElem hl
    have q:=R.cell i a st[i] e hs
    cases hc : st[i] with
    | lst xs=>rw [hc] at q hs; simp only [dpv,hs]; obtain ⟨vs,h,_⟩:=q; exact .lst h
    | dic xs=>rw [hc] at q hs; simp only [dpv,hs]; obtain ⟨vs,h,_⟩:=q; exact .dK h
    | dtp xs=>rw [hc] at q hs; simp only [dpv,hs]; obtain ⟨vs,h,_⟩:=q; exact .dT h
  | dic=>obtain ⟨a,rfl,h,_⟩:=r; exact .dK h
def kitTypes : List String:=["int", "bool", "str", "tuple", "list", "dict"]
theorem kit_ok (K : PySem.W.Frag) {T : String} (hT : T ∈ kitTypes) (p : PV) : PySem.W.kitOne K (.type (tyN p)) (.type T) = some (isI T p):=by
  have hT : T = "int" \/ T = "bool" \/ T = "str" \/ T = "tuple" \/ T = "list" \/ T = "dict" := by simpa [kitTypes] using hT
  rcases hT with rfl | rfl | rfl | rfl | rfl | rfl <;> cases p <;> first | rfl | kernel_rfl
def mIsI (T : String) (m : ME) : ME:=fun Γ st=>(m Γ st).bind fun p st1=>.ok (.bl (isI T (dpv st1 p))) st1
theorem se_isi {T : String} {tx : Str} {a : Expr} {ma : ME} {p tp : Pos} (hT : T ∈ kitTypes) (ha : SimE X E a ma) (hg : Gl X "isinstance") (hm : X.mg "isinstance" = none) (hgT : Gl X tx) (hmT : X.mg tx = none) (hvT : bootBuiltins tx = some (.type T))
    (hn : tx ≠ "__name__" := by decide) (hd : (tx == ("__debug__" : Str)) = false:=by decide)
    (he : starEach [a,.Name tx tp] X.env = (false,eval a X.env) :: starEach [.Name tx tp] X.env:=by rfl) (he2 : starEach [.Name tx tp] X.env = (false,eval (.Name tx tp) X.env) :: starEach [] X.env:=by rfl) (hpl : (backTo pos (starEach [.Name tx tp] X.env)).any (·.1) = false:=by rfl) :
    SimE X E (.Call (.Name "isinstance" p) [a,.Name tx tp] [] pos) (mIsI T ma):=
  ⟨fun Γ σ H ρ st Q R G h=>WE.of (pe_callB call_isinst hg hm boot_isinstance (pa_cons pe_w (pa_cons (pe_bltn hgT hmT hvT (v:=.ty T) rfl hn hd) pa_nil he2) he) (by decide) (by decide) he hpl)
    (ha.use R G h.bind fun q st1 H1 ρ1 v x1 R1 G1 r1 h1=>⟨v,.ty T,.type T,_,_,rfl,rfl,ty_of R1 r1,kit_ok X.K hT (dpv st1 q),now R1 h1 rfl⟩)⟩
end
end Sm
namespace Sm
open PySem PySem.Spec L2
abbrev GA:=PV -> Gam -> Option Gam
abbrev GAs:=List PV -> Gam -> Option Gam
structure SimG (X : Cx) (tg : Expr) (ga : GA) : Prop where
  run : ∀ (Γ Γ' : Gam) (σ : St) (H : Hp) (ρ : Tk) (p : PV) (v : V) (Q : St -> Hp -> Prop),EnvR H ρ Γ σ -> Rep H ρ p v -> ga p Γ = some Γ' -> (∀ σ',EnvR H ρ Γ' σ' -> Q σ' H) -> ∃ t,PG X tg t /\ t v σ H Q
def gaName (i : Nat) : GA:=fun p Γ=>some (Γ.set i (some p))
def gaNil : GAs:=fun ps Γ=>match ps with
  | []=>some Γ
  | _=>none
def gaCons (g : GA) (gs : GAs) : GAs:=fun ps Γ=>match ps with
  | p :: r=>(g p Γ).bind (gs r)
  | []=>none
def gaTup (gs : GAs) : GA:=fun p Γ=>match p with
  | .tup ps=>gs ps Γ
  | _=>none
section
variable {X : Cx} {pos : Pos}
theorem sg_name {i : Nat} {x : Str} (hN : X.N.Nodup) (hi : X.N[i]? = some x:=by rfl) (hx : Loc X.env.scope x:=by first | exact Or.inl rfl | exact Or.inr rfl) (hf : X.fn x = true \/ X.env.scope.names.lookup x = some .local:=by first | exact .inl rfl | exact .inr rfl) : SimG X (.Name x pos) (gaName i):=
  ⟨fun Γ Γ' σ H ρ p v Q G r e k=>⟨_,pg_name hN hi hx hf,by cases e; exact k _ (G.set r i)⟩⟩
def WGx (X : Cx) (tg : Expr) : TG:=fun v σ H Q=>∃ t,PG X tg t /\ t v σ H Q
theorem pg_x {tg : Expr} : PG X tg (WGx X tg):=fun pins s σ H v u Q I r ⟨t,h,q⟩=>h pins s σ H v u Q I r q
end
abbrev Wt:=List (Nat × Cell)
def wOk (w : Wt) (st : Store) : Prop:=∀ x ∈ w,st[x.1]? = some x.2
theorem wOk_nil (st : Store) : wOk [] st:=fun x h=>by cases h
structure Src (J : It) (items : List PV) (w : Wt) (H : Hp) (ρ : Tk) : Prop where
  stop : ∀ H2 ρ2 st2,Ext H ρ H2 ρ2 -> Rel H2 ρ2 st2 -> wOk w st2 -> J.stop items.length H2
  go : ∀ H2 ρ2 st2,Ext H ρ H2 ρ2 -> Rel H2 ρ2 st2 -> wOk w st2 -> ∀ i,i < items.length -> J.go i H2
  yld : ∀ H2 ρ2 st2,Ext H ρ H2 ρ2 -> Rel H2 ρ2 st2 -> wOk w st2 -> ∀ i p,items[i]? = some p -> ∀ x H3,J.yld i H2 x H3 -> Same H2 H3 /\ Rep H3 ρ2 p x
abbrev MI:=Gam -> Store -> Res (List PV × Wt)
structure SimI (X : Cx) (E : XK) (tg iter : Expr) (mi : MI) : Prop where
  run : ∀ (Γ : Gam) (σ : St) (H : Hp) (ρ : Tk) (st : Store) (P : List PV × Wt -> Store -> Hp -> Tk -> Prop) (R' : It -> Hp -> Prop),Rel H ρ st -> EnvR H ρ Γ σ -> Acc X.mg E H ρ P (mi Γ st) ->
    (∀ iw st1 H1 ρ1 J,mi Γ st = .ok iw st1 -> Ext H ρ H1 ρ1 -> Rel H1 ρ1 st1 -> EnvR H1 ρ1 Γ σ -> wOk iw.2 st1 -> iw.1.length <= sizeLine -> Src J iw.1 iw.2 H1 ρ1 -> P iw st1 H1 ρ1 -> R' J H1) -> WI X tg iter σ H R'
def srcOf (st : Store) : PV -> Option (List PV × Wt)
  | .tup xs=>some (xs,[])
  | .lst xs=>some (xs,[])
  | .fro xs=>some (xs,[])
  | .ref i=>match st[i]? with
    | some (.lst xs)=>some (xs,[(i,.lst xs)])
    | _=>none
  | _=>none
theorem src_at {K : PySem.W.Frag} {H : Hp} {ρ : Tk} {st : Store} {p : PV} {v : V} {xs : List PV} {w : Wt} (R : Rel H ρ st) (r : Rep H ρ p v) (e : srcOf st p = some (xs,w)) :
    wOk w st /\ ∃ (t : Bool) (a : Addr),v = .ref a /\ (t = true -> ∃ ys,p = .tup ys) /\ (t = false -> ∀ ys,p ≠ .tup ys) /\ ∀ H2 ρ2 st2,Ext H ρ H2 ρ2 -> Rel H2 ρ2 st2 -> wOk w st2 -> ∃ vs,SqK K t H2 a vs /\ RepL H2 ρ2 xs vs:=by
  cases p with
  | tup ys=>
    obtain ⟨a,vs,rfl,ha,na,ra⟩:=r
    cases e
    exact ⟨wOk_nil _,true,a,rfl,fun _=>⟨_,rfl⟩,(fun z=>by cases z),fun H2 ρ2 st2 x R2 _=>⟨vs,show SqT K H2 a vs from SqT.of (x.kp ha na),ra.ext x⟩⟩
  | lst ys=>
    obtain ⟨a,vs,rfl,ha,na,ra⟩:=r
    cases e
    exact ⟨wOk_nil _,false,a,rfl,(fun z=>by cases z),(fun _ _ z=>by cases z),fun H2 ρ2 st2 x R2 _=>⟨vs,show SqL K H2 a vs from SqL.of (x.kp ha na),ra.ext x⟩⟩
  | fro ys=>
    obtain ⟨a,vs,rfl,ha,na,ra⟩:=r
    cases e
    refine ⟨wOk_nil _,false,a,rfl,(fun z=>by cases z),(fun _ _ z=>by cases z),fun H2 ρ2 st2 x R2 _=>⟨vs,show SqL K H2 a vs from ?_,ra.ext x⟩⟩
    rcases ha with ha | ⟨o,ha⟩
    · exact .inl (.inl (x.kp ha na))
    · exact .inl (.inr ⟨o,x.kp ha na⟩)
  | ref i=>
    obtain ⟨a,ea,rfl⟩:=r
    simp only [srcOf] at e
    split at e
    · rename_i ys hs
      cases e
      refine ⟨fun x hx=>?_,false,a,rfl,(fun z=>by cases z),(fun _ _ z=>by cases z),fun H2 ρ2 st2 x R2 ok=>?_⟩
      · have : x = (i,.lst xs):=by simpa using hx
        subst this; exact hs
      · have hs2:=ok (i,.lst xs) (by simp)
        obtain ⟨b,vs,f1,f2,f3⟩:=R2.lst hs2
        obtain ⟨t,et⟩:=x.pre
        rw [<- et,List.getElem?_append_left (List.getElem?_eq_some_iff.mp ea).1,ea] at f1
        cases f1
        exact ⟨vs,show SqL K H2 a vs from SqL.of f2,f3⟩
    · cases e
  | _=>cases e
section
variable {X : Cx} {E : XK} {pos : Pos} {tg : Expr} {e : Expr} {m : ME}
def mSeq (m : ME) : MI:=fun Γ st=>(m Γ st).bind fun p st1=>match srcOf st1 p with
  | some (xs,w)=>if xs.length <= lim then .ok (xs,w) st1 else .stuck
  | none=>.stuck
theorem RepL.i {H : Hp} {ρ : Tk} {ps : List PV} {vs : List V} {i : Nat} {p : PV} {x : V} (r : RepL H ρ ps vs) (h : ps[i]? = some p) (h' : vs[i]? = some x) : Rep H ρ p x:=by
  obtain ⟨v,e,q⟩:=r.get h
  rw [h'] at e; cases e
  exact q
theorem src_seq {K : PySem.W.Frag} {H : Hp} {ρ : Tk} {t : Bool} {a : Addr} {xs : List PV} {w : Wt} (h : ∀ H2 ρ2 st2,Ext H ρ H2 ρ2 -> Rel H2 ρ2 st2 -> wOk w st2 -> ∃ vs,SqK K t H2 a vs /\ RepL H2 ρ2 xs vs) : Src (if t = true then Itt K a else Itl K a) xs w H ρ:=by
  cases t with
  | true=>
    rw [if_pos rfl]
    refine ⟨fun H2 ρ2 st2 x R ok=>?_,fun H2 ρ2 st2 x R ok i hi=>?_,fun H2 ρ2 st2 x R ok i p hp y H3 hy=>?_⟩
    · obtain ⟨vs,s,r⟩:=h H2 ρ2 st2 x R ok
      exact ⟨vs,s,by rw [r.length]; exact Nat.le_refl _⟩
    · obtain ⟨vs,s,r⟩:=h H2 ρ2 st2 x R ok
      have hi' : i < vs.length:=by rw [<- r.length]; exact hi
      exact ⟨vs,vs[i],s,List.getElem?_eq_getElem hi'⟩
    · obtain ⟨vs,s,r⟩:=h H2 ρ2 st2 x R ok
      obtain ⟨rfl,hv⟩:=hy
      exact ⟨Same.refl _,r.i hp (hv vs s)⟩
  | false=>
    rw [if_neg Bool.false_ne_true]
    refine ⟨fun H2 ρ2 st2 x R ok=>?_,fun H2 ρ2 st2 x R ok i hi=>?_,fun H2 ρ2 st2 x R ok i p hp y H3 hy=>?_⟩
    · obtain ⟨vs,s,r⟩:=h H2 ρ2 st2 x R ok
      exact ⟨vs,s,by rw [r.length]; exact Nat.le_refl _⟩
    · obtain ⟨vs,s,r⟩:=h H2 ρ2 st2 x R ok
      have hi' : i < vs.length:=by rw [<- r.length]; exact hi
      exact ⟨vs,vs[i],s,List.getElem?_eq_getElem hi'⟩
    · obtain ⟨vs,s,r⟩:=h H2 ρ2 st2 x R ok
      obtain ⟨rfl,hv⟩:=hy
      exact ⟨Same.refl _,r.i hp (hv vs s)⟩
theorem mSeq_in {mg : Str -> Option Value} {H : Hp} {ρ : Tk} {st : Store} {p : PV} {P : List PV × Wt -> Store -> Hp -> Tk -> Prop} (R : Rel H ρ st) (h : Acc mg E H ρ P (match srcOf st p with | some (xs,w)=>if xs.length <= lim then .ok (xs,w) st else .stuck | none=>.stuck)) :
    ∃ xs w,srcOf st p = some (xs,w) /\ xs.length <= lim /\ P (xs,w) st H ρ:=by
  split at h
  · rename_i xs w e
    split at h
    · rename_i hl
      exact ⟨xs,w,e,hl,h H ρ (Ext.refl _ _) R⟩
    · exact h.elim
  · exact h.elim
theorem si_seq (ha : SimE X E e m) : SimI X E tg e (mSeq m):=⟨fun Γ σ H ρ st P R' R G h k=>by
  have hb : Acc X.mg E H ρ _ (m Γ st):=Acc.bind h
  by_cases ht : ∃ ys st1,m Γ st = .ok (.tup ys) st1
  · obtain ⟨ys,st0,e0⟩:=ht
    refine WI.of (pi_tup pe_w) (ha.use' R G hb fun p st1 H1 ρ1 v eq x1 R1 G1 r1 h1=>?_)
    obtain ⟨xs,w,e,hl,hP⟩:=mSeq_in R1 h1
    obtain ⟨ok,t,a,rfl,t1,t2,sq⟩:=src_at (K:=X.K) R1 r1 e
    have ep : p = .tup ys:=by rw [eq] at e0; injection e0
    cases t with
    | false=>exact absurd ep (t2 rfl ys)
    | true=>
      obtain ⟨vs,s,_⟩:=sq H1 ρ1 st1 (Ext.refl _ _) R1 ok
      exact ⟨a,rfl,⟨vs,s⟩,k (xs,w) st1 H1 ρ1 _ (by simp only [mSeq,eq,Res.bind,e,if_pos hl]) x1 R1 G1 ok (le_lim hl) (src_seq sq) hP⟩
  · refine WI.of (pi_list pe_w) (ha.use' R G hb fun p st1 H1 ρ1 v eq x1 R1 G1 r1 h1=>?_)
    obtain ⟨xs,w,e,hl,hP⟩:=mSeq_in R1 h1
    obtain ⟨ok,t,a,rfl,t1,t2,sq⟩:=src_at (K:=X.K) R1 r1 e
    cases t with
    | true=>
      obtain ⟨ys,rfl⟩:=t1 rfl
      exact absurd ⟨ys,st1,eq⟩ ht
    | false=>
      obtain ⟨vs,s,_⟩:=sq H1 ρ1 st1 (Ext.refl _ _) R1 ok
      exact ⟨a,rfl,⟨vs,s⟩,k (xs,w) st1 H1 ρ1 _ (by simp only [mSeq,eq,Res.bind,e,if_pos hl]) x1 R1 G1 ok (le_lim hl) (src_seq sq) hP⟩⟩
def rangeI (lo : Int) (n : Nat) : List PV:=(List.range n).map fun (k : Nat)=>PV.int (lo + (k : Int))
theorem src_range {H : Hp} {ρ : Tk} {lo : Int} {n : Nat} : Src (Itr lo n) (rangeI lo n) [] H ρ:=by
  have hl : (rangeI lo n).length = n:=by unfold rangeI; rw [List.length_map,List.length_range]
  refine ⟨fun H2 ρ2 st2 x R ok=>?_,fun H2 ρ2 st2 x R ok i hi=>?_,fun H2 ρ2 st2 x R ok i p hp y H3 hy=>?_⟩
  · show n <= (rangeI lo n).length
    omega
  · show i < n
    omega
  · obtain ⟨rfl,rfl⟩:=hy
    have hi : i < n:=by rw [<- hl]; exact (List.getElem?_eq_some_iff.mp hp).1
    unfold rangeI at hp
    rw [List.getElem?_map,List.getElem?_range hi] at hp
    cases hp
    exact ⟨Same.refl _,rfl⟩
def mRange1 (mr : Gam -> Store -> Res (List PV)) : MI:=fun Γ st=>(mr Γ st).bind fun ps st1=>match ps with
  | [.int j]=>if -(lim : Int) <= j /\ j <= lim then .ok (rangeI 0 j.toNat,[]) st1 else .stuck
  | _=>.stuck
def mRange2 (mr : Gam -> Store -> Res (List PV)) : MI:=fun Γ st=>(mr Γ st).bind fun ps st1=>match ps with
  | [.int i,.int j]=>if -(lim : Int) <= i /\ i <= lim /\ -(lim : Int) <= j /\ j <= lim then .ok (rangeI i (j - i).toNat,[]) st1 else .stuck
  | _=>.stuck
variable {a b : Expr} {mr : Gam -> Store -> Res (List PV)} {p : Pos}
theorem rangeI_len (lo : Int) (n : Nat) : (rangeI lo n).length = n:=by unfold rangeI; rw [List.length_map,List.length_range]
theorem si_range1 (hg : Gl X "range") (hm : X.mg "range" = none) (ha : SimA X E [a] mr) (hs : starEach [a] X.env = [(false,eval a X.env)]:=by rfl) : SimI X E tg (.Call (.Name "range" p) [a] [] pos) (mRange1 mr):=⟨fun Γ σ H ρ st P R' R G h k=>by
  refine WI.of (pi_range1 hg hm pa_w hs) (ha.use' R G h.bind fun ps st1 H1 ρ1 vs eq x1 R1 G1 r1 h1=>?_)
  split at h1
  · rename_i j
    split at h1
    · rename_i hj
      obtain ⟨v,rfl,rv⟩:=repL_one r1
      cases rv
      have hl : (lim : Int) = 1000000:=rfl
      refine ⟨j,rfl,by omega,by omega,k (rangeI 0 j.toNat,[]) st1 H1 ρ1 _ (by simp only [mRange1,eq,Res.bind,if_pos hj]) x1 R1 G1 (wOk_nil _) ?_ src_range (h1 H1 ρ1 (Ext.refl _ _) R1)⟩
      show (rangeI 0 j.toNat).length <= sizeLine
      rw [rangeI_len]
      exact le_lim (by omega)
    · exact h1.elim
  · exact h1.elim⟩
theorem si_range2 (hg : Gl X "range") (hm : X.mg "range" = none) (ha : SimA X E [a,b] mr) (hs : starEach [a,b] X.env = [(false,eval a X.env),(false,eval b X.env)]:=by rfl) (hs2 : starEach [b] X.env = [(false,eval b X.env)]:=by rfl) : SimI X E tg (.Call (.Name "range" p) [a,b] [] pos) (mRange2 mr):=⟨fun Γ σ H ρ st P R' R G h k=>by
  refine WI.of (pi_range2 hg hm pa_w hs hs2) (ha.use' R G h.bind fun ps st1 H1 ρ1 vs eq x1 R1 G1 r1 h1=>?_)
  split at h1
  · rename_i i j
    split at h1
    · rename_i hj
      obtain ⟨v,u,rfl,rv,ru⟩:=repL_two r1
      cases rv; cases ru
      have hl : (lim : Int) = 1000000:=rfl
      refine ⟨i,j,rfl,⟨by omega,by omega,by omega,by omega⟩,k (rangeI i (j - i).toNat,[]) st1 H1 ρ1 _ (by simp only [mRange2,eq,Res.bind,if_pos hj]) x1 R1 G1 (wOk_nil _) ?_ src_range (h1 H1 ρ1 (Ext.refl _ _) R1)⟩
      show (rangeI i (j - i).toNat).length <= sizeLine
      rw [rangeI_len]
      exact Nat.le_trans (show (j - i).toNat <= 2000000 by omega) (by decide)
    · exact h1.elim
  · exact h1.elim⟩
def zipT : List PV -> List PV -> List PV
  | x :: xs,y :: ys=>.tup [x,y] :: zipT xs ys
  | _,_=>[]
def mZip (mr : Gam -> Store -> Res (List PV)) : MI:=fun Γ st=>(mr Γ st).bind fun ps st1=>match ps with
  | [p,q]=>match srcOf st1 p,srcOf st1 q with
    | some (xs,w),some (ys,w')=>if xs.length <= lim then .ok (zipT xs ys,w ++ w') st1 else .stuck
    | _,_=>.stuck
  | _=>.stuck
def enumT : Nat -> List PV -> List PV
  | _,[]=>[]
  | n,x :: xs=>.tup [.int n,x] :: enumT (n + 1) xs
def mEnum (mr : Gam -> Store -> Res (List PV)) : MI:=fun Γ st=>(mr Γ st).bind fun ps st1=>match ps with
  | [p]=>match srcOf st1 p with
    | some (xs,w)=>if xs.length <= lim then .ok (enumT 0 xs,w) st1 else .stuck
    | none=>.stuck
  | _=>.stuck
end
end Sm
namespace Sm
open PySem PySem.Spec L2
abbrev ML:=Gam -> Store -> Res (List PV)
structure SimN (X : Cx) (E : XK) (e : Expr) (m : ML) : Prop where
  run : ∀ (Γ : Gam) (σ : St) (H : Hp) (ρ : Tk) (st : Store) (P : List PV -> Store -> Hp -> Tk -> Prop) (Q : VK),Rel H ρ st -> EnvR H ρ Γ σ -> Acc X.mg E H ρ P (m Γ st) ->
    (∀ ps st1 H1 ρ1 a vs,m Γ st = .ok ps st1 -> Ext H ρ H1 ρ1 -> Rel H1 ρ1 st1 -> a ∈ ρ1.hid -> H a = none -> H1 a = some (.lst vs) -> RepL H1 ρ1 ps vs -> Q (.ref a) H1) -> WE X e σ H Q
def mVal (m : ML) : ME:=fun Γ st=>(m Γ st).bind fun ps st1=>.ok (.lst ps) st1
def mTrk (m : ML) : ME:=fun Γ st=>(m Γ st).bind fun ps st1=>.ok (.ref st1.length) (st1 ++ [.lst ps])
section
variable {H0 H : Hp} {ρ0 ρ : Tk} {st : Store} {a : Addr} {ps : List PV} {vs : List V}
theorem out_val (R0 : Rel H0 ρ0 st) (x : Ext H0 ρ0 H ρ) {st1 : Store} (R : Rel H ρ st1) (hm : a ∈ ρ.hid) (hn : H0 a = none) (ha : H a = some (.lst vs)) (r : RepL H ρ ps vs) :
    Ext H0 ρ0 H ⟨ρ.tr,ρ0.hid⟩ /\ Rel H ⟨ρ.tr,ρ0.hid⟩ st1 /\ Rep H ⟨ρ.tr,ρ0.hid⟩ (.lst ps) (.ref a):=
  ⟨x.unhide,R.unhide x.hidM,a,vs,rfl,ha,(fun z=>by
    rcases z with z | z
    · exact R.ap a hm z
    · obtain ⟨o,e⟩:=R0.hd a z
      rw [hn] at e; cases e),r.unhide x.hidM⟩
mutual
theorem Rep.trk {b : Addr} {hs : List Addr} (hb : b ∈ ρ.hid) (hh : ∀ c,c ∈ hs -> c ∈ ρ.hid) : ∀ {p : PV} {v : V},Rep H ρ p v -> Rep H ⟨ρ.tr ++ [b],hs⟩ p v
  | .non,_,r=>r
  | .bl _,_,r=>r
  | .int _,_,r=>r
  | .str _,_,r=>r
  | .tup ps,v,⟨c,vs,e,s,n,r⟩=>⟨c,vs,e,s,fun z=>by
      rcases z with z | z
      · rcases List.mem_append.mp z with z | z
        · exact n (.inl z)
        · have : c = b:=by simpa using z
          subst this; exact n (.inr hb)
      · exact n (.inr (hh _ z)),RepL.trk hb hh r⟩
  | .lst ps,v,⟨c,vs,e,s,n,r⟩=>⟨c,vs,e,s,fun z=>by
      rcases z with z | z
      · rcases List.mem_append.mp z with z | z
        · exact n (.inl z)
        · have : c = b:=by simpa using z
          subst this; exact n (.inr hb)
      · exact n (.inr (hh _ z)),RepL.trk hb hh r⟩
  | .fro ps,v,⟨c,vs,e,s,n,r⟩=>⟨c,vs,e,s,fun z=>by
      rcases z with z | z
      · rcases List.mem_append.mp z with z | z
        · exact n (.inl z)
        · have : c = b:=by simpa using z
          subst this; exact n (.inr hb)
      · exact n (.inr (hh _ z)),RepL.trk hb hh r⟩
  | .ref i,v,⟨c,e,e2⟩=>⟨c,by show (ρ.tr ++ [b])[i]? = some c; rw [List.getElem?_append_left (List.getElem?_eq_some_iff.mp e).1]; exact e,e2⟩
  | .dic,v,⟨c,e,s,n⟩=>⟨c,e,s,fun z=>by
      rcases z with z | z
      · rcases List.mem_append.mp z with z | z
        · exact n (.inl z)
        · have : c = b:=by simpa using z
          subst this; exact n (.inr hb)
      · exact n (.inr (hh _ z))⟩
theorem RepL.trk {b : Addr} {hs : List Addr} (hb : b ∈ ρ.hid) (hh : ∀ c,c ∈ hs -> c ∈ ρ.hid) : ∀ {ps : List PV} {vs : List V},RepL H ρ ps vs -> RepL H ⟨ρ.tr ++ [b],hs⟩ ps vs
  | [],_,r=>r
  | p :: ps,_,⟨v,t,e,r1,r2⟩=>⟨v,t,e,Rep.trk hb hh r1,RepL.trk hb hh r2⟩
end
theorem out_trk (R0 : Rel H0 ρ0 st) (x : Ext H0 ρ0 H ρ) {st1 : Store} (R : Rel H ρ st1) (hm : a ∈ ρ.hid) (hn : H0 a = none) (ha : H a = some (.lst vs)) (r : RepL H ρ ps vs) :
    Ext H0 ρ0 H ⟨ρ.tr ++ [a],ρ0.hid⟩ /\ Rel H ⟨ρ.tr ++ [a],ρ0.hid⟩ (st1 ++ [.lst ps]) /\ Rep H ⟨ρ.tr ++ [a],ρ0.hid⟩ (.ref st1.length) (.ref a):=by
  have na0 : a ∉ ρ0.hid:=fun z=>by
    obtain ⟨o,e⟩:=R0.hd a z
    rw [hn] at e; cases e
  refine ⟨⟨x.pre.trans (List.prefix_append _ _),fun _ h=>h,fun _ h=>.inl h,x.keep,fun b hb=>?_,x.old⟩,⟨?_,?_,fun b hb=>R.hd b (x.hidM b hb),fun b hb z=>?_,fun i b c h1 h2=>?_⟩,a,?_,rfl⟩
  · rcases List.mem_append.mp hb with z | z
    · exact x.new b z
    · have : b = a:=by simpa using z
      subst this; exact .inr hn
  · show (ρ.tr ++ [a]).length = _
    rw [List.length_append,List.length_append,R.len]; rfl
  · show (ρ.tr ++ [a]).Nodup
    refine List.nodup_append.mpr ⟨R.nd,by simp,fun b hb c hc e=>?_⟩
    have : c = a:=by simpa using hc
    subst this; subst e
    exact R.ap b hm hb
  · rcases List.mem_append.mp z with z | z
    · exact R.ap b (x.hidM b hb) z
    · have : b = a:=by simpa using z
      subst this; exact na0 hb
  · have h1 : (ρ.tr ++ [a])[i]? = some b:=h1
    by_cases hi : i < st1.length
    · rw [List.getElem?_append_left (by rw [R.len]; exact hi)] at h1
      rw [List.getElem?_append_left hi] at h2
      have q:=R.cell i b c h1 h2
      cases c with
      | lst qs=>
        obtain ⟨us,e1,e2⟩:=q
        exact ⟨us,e1,e2.trk hm x.hidM⟩
      | dic qs=>
        obtain ⟨us,e1,e2⟩:=q
        exact ⟨us,e1,e2.1,e2.2.trk hm x.hidM⟩
      | dtp qs=>
        obtain ⟨us,e1,e2⟩:=q
        exact ⟨us,e1,e2.1,e2.2.trk hm x.hidM⟩
    · rw [List.getElem?_append_right (by rw [R.len]; omega)] at h1
      rw [List.getElem?_append_right (by omega)] at h2
      have e0 : i - st1.length = 0:=by
        rcases Nat.eq_zero_or_pos (i - st1.length) with z | z
        · exact z
        · rw [List.getElem?_eq_none (by simp; omega)] at h2; cases h2
      rw [R.len,e0] at h1
      rw [e0] at h2
      simp at h1 h2
      subst h1; subst h2
      exact ⟨vs,ha,r.trk hm x.hidM⟩
  · show (ρ.tr ++ [a])[st1.length]? = some a
    rw [<- R.len,List.getElem?_append_right (Nat.le_refl _),Nat.sub_self]; rfl
end
section
variable {X : Cx} {E : XK} {pos : Pos} {e : Expr} {m : ML}
theorem se_val (h : SimN X E e m) : SimE X E e (mVal m):=⟨fun Γ σ H ρ st Q R G hq=>h.run Γ σ H ρ st _ Q R G hq.bind fun ps st1 H1 ρ1 a vs eq x R1 hm hn ha r=>by
  obtain ⟨x2,R2,r2⟩:=out_val R x R1 hm hn ha r
  unfold mVal at hq
  rw [eq] at hq
  exact hq _ _ x2 R2 _ r2⟩
theorem se_trk (h : SimN X E e m) : SimE X E e (mTrk m):=⟨fun Γ σ H ρ st Q R G hq=>h.run Γ σ H ρ st _ Q R G hq.bind fun ps st1 H1 ρ1 a vs eq x R1 hm hn ha r=>by
  obtain ⟨x2,R2,r2⟩:=out_trk R x R1 hm hn ha r
  unfold mTrk at hq
  rw [eq] at hq
  exact hq _ _ x2 R2 _ r2⟩
variable {es : List Expr} {mr : Gam -> Store -> Res (List PV)} {a b : Expr} {ma mb : ME}
theorem new_at {H1 : Hp} {ρ1 : Tk} {st1 : Store} {H : Hp} {ρ : Tk} {Q : VK} {ps : List PV} {vs : List V} (x : Ext H ρ H1 ρ1) (R1 : Rel H1 ρ1 st1) (r : RepL H1 ρ1 ps vs)
    (k : ∀ H1 ρ1 a vs,Ext H ρ H1 ρ1 -> Rel H1 ρ1 st1 -> a ∈ ρ1.hid -> H a = none -> H1 a = some (.lst vs) -> RepL H1 ρ1 ps vs -> Q (.ref a) H1) : ∀ p,H1 p = none -> Q (.ref p) (upd H1 p (.lst vs)):=fun p hp=>by
  refine k _ (ρ1.hide p) p vs (x.trans (Ext.hide hp)) (R1.hide hp) List.mem_cons_self ?_ upd_same (r.hide hp)
  cases e : H p with
  | none=>rfl
  | some o=>
    obtain ⟨o',e'⟩:=x.old p o e
    rw [hp] at e'; cases e'
def mLstN (mr : Gam -> Store -> Res (List PV)) : ML:=fun Γ st=>(mr Γ st).bind fun ps st1=>if ps.length <= lim then .ok ps st1 else .stuck
theorem sn_lst (h : SimA X E es mr) : SimN X E (.List es pos) (mLstN mr):=
  ⟨fun Γ σ H ρ st P Q R G hq k=>WE.of (pe_lst pa_w) (h.use' R G hq.bind fun ps st1 H1 ρ1 vs eq x1 R1 G1 r1 h1=>by
    by_cases hl : ps.length <= lim
    · refine ⟨by rw [<- r1.length]; exact le_lim hl,new_at x1 R1 r1 fun H2 ρ2 a us=>k ps st1 H2 ρ2 a us ?_⟩
      unfold mLstN
      rw [eq]
      exact if_pos hl
    · rw [if_neg hl] at h1; exact h1.elim)⟩
def mListN (ma : ME) : ML:=fun Γ st=>(ma Γ st).bind fun p st1=>match seqOf st1 p with
  | some xs=>.ok xs st1
  | none=>.stuck
theorem sn_list {p : Pos} (ha : SimE X E a ma) (hg : Gl X "list") (hm : X.mg "list" = none) (he : starEach [a] X.env = (false,eval a X.env) :: starEach [] X.env:=by rfl) : SimN X E (.Call (.Name "list" p) [a] [] pos) (mListN ma):=
  ⟨fun Γ σ H ρ st P Q R G hq k=>WE.of (pe_callTy call_list_of hg hm boot_list (pa_cons pe_w pa_nil he) (by decide) (by decide) he rfl) (ha.use' R G hq.bind fun q st1 H1 ρ1 v eq x1 R1 G1 r1 h1=>by
    split at h1
    · rename_i xs e
      obtain ⟨t,b,vs,rfl,hq2,ra⟩:=seq_at (K:=X.K) R1 r1 e
      refine ⟨b,vs,rfl,sqK_or hq2,new_at x1 R1 ra fun H2 ρ2 a us=>k xs st1 H2 ρ2 a us ?_⟩
      unfold mListN
      rw [eq]
      show (match seqOf st1 q with | some xs=>Res.ok xs st1 | none=>.stuck) = _
      rw [e]
    · exact h1.elim)⟩
def oAddN (st : Store) (p q : PV) : Res (List PV):=match lstOf st p,lstOf st q with
  | some xs,some ys=>if xs.length + ys.length <= lim then .ok (xs ++ ys) st else .stuck
  | _,_=>.stuck
def mAddN (ma mb : ME) : ML:=fun Γ st=>(ma Γ st).bind fun x st1=>(mb Γ st1).bind fun y st2=>oAddN st2 x y
def oRepN (st : Store) (p q : PV) : Res (List PV):=match lstOf st p,q with
  | some xs,.int b=>if -(2 ^ 63) <= b /\ b < 2 ^ 63 /\ xs.length * b.toNat <= lim then .ok (List.replicate b.toNat xs).flatten st else .stuck
  | _,_=>.stuck
def mRepN (ma mb : ME) : ML:=fun Γ st=>(ma Γ st).bind fun x st1=>(mb Γ st1).bind fun y st2=>oRepN st2 x y
end
end Sm
namespace Sm
open PySem PySem.Spec L2
def capG (cap : List (Option Nat)) (Γ : Gam) : Gam:=cap.map fun c=>c.bind fun j=>(Γ[j]?).join
theorem EnvR.cap {H : Hp} {ρ : Tk} {Γ : Gam} {σ : St} (h : EnvR H ρ Γ σ) (cap : List (Option Nat)) : EnvR H ρ (capG cap Γ) (capOf cap σ):=by
  refine ⟨by unfold capG capOf; rw [List.length_map,List.length_map],fun i p e=>?_⟩
  unfold capG at e
  unfold capOf
  rw [List.getElem?_map] at e ⊢
  cases q : cap[i]? with
  | none=>rw [q] at e; cases e
  | some c=>
    rw [q] at e
    cases c with
    | none=>cases e
    | some j=>
      have e' : (Γ[j]?).join = some p:=Option.some.inj e
      cases r : Γ[j]? with
      | none=>rw [r] at e'; cases e'
      | some o=>
        rw [r] at e'
        have : o = some p:=e'
        subst this
        obtain ⟨v,e1,e2⟩:=h.2 j p r
        exact ⟨v,by show some ((σ[j]?).join) = some (some v); rw [e1]; rfl,e2⟩
def FreeT (cap : List (Option Nat)) (ga : GA) : Prop:=∀ Γ p Γ1,ga p (capG cap Γ) = some Γ1 -> Γ1.length = (capG cap Γ).length /\ ∀ (i : Nat) (q : PV),(capG cap Γ)[i]? = some (some q) -> Γ1[i]? = some (some q)
theorem capG_none {cap : List (Option Nat)} {i : Nat} (h : cap[i]? = some none) (Γ : Gam) : (capG cap Γ)[i]? = some none:=by
  unfold capG
  rw [List.getElem?_map,h]; rfl
theorem free_name {cap : List (Option Nat)} {i : Nat} (h : cap[i]? = some none:=by rfl) : FreeT cap (gaName i):=fun Γ p Γ1 e=>by
  cases e
  refine ⟨List.length_set ..,fun j q hj=>?_⟩
  rw [List.getElem?_set_ne fun z=>?_]
  · exact hj
  · subst z; rw [capG_none h] at hj; cases hj
open Classical in
def compG (ga : GA) (mt : MT) (me : ME) (w : Wt) (Γ0 : Gam) : List PV -> Store -> Res (List PV)
  | [],st=>if wOk w st then .ok [] st else .stuck
  | x :: xs,st=>if wOk w st then (match ga x Γ0 with
    | none=>.stuck
    | some Γ1=>(mt Γ1 st).bind fun b st1=>if b = true then (me Γ1 st1).bind fun y st2=>(compG ga mt me w Γ0 xs st2).bind fun ys st3=>.ok (y :: ys) st3 else compG ga mt me w Γ0 xs st1) else .stuck
def noX {α : Type} : Res α -> Res α
  | .exc _ _=>.stuck
  | r=>r
def mCompN (cap : List (Option Nat)) (ga : GA) (mi : MI) (mt : MT) (me : ME) : ML:=fun Γ st=>(mi Γ st).bind fun iw st1=>noX (compG ga mt me iw.2 (capG cap Γ) iw.1 st1)
structure SimTs (X : Cx) (ifs : List Expr) (m : MT) : Prop where
  run : ∀ (Γ : Gam) (σ : St) (H : Hp) (ρ : Tk) (st : Store) (P : Bool -> Store -> Hp -> Tk -> Prop) (Q : Bool -> Hp -> Prop),Rel H ρ st -> EnvR H ρ Γ σ -> Acc X.mg E0 H ρ P (m Γ st) ->
    (∀ b st1 H1 ρ1,m Γ st = .ok b st1 -> Ext H ρ H1 ρ1 -> Rel H1 ρ1 st1 -> EnvR H1 ρ1 Γ σ -> Q b H1) -> ∃ t,PTs X ifs t /\ t σ H Q
def mTrue : MT:=fun _ st=>.ok true st
theorem sts_nil {X : Cx} : SimTs X [] mTrue:=⟨fun Γ σ H ρ st P Q R G h k=>⟨_,pts_nil,k true st H ρ rfl (Ext.refl _ _) R G⟩⟩
theorem acc_noX {α : Type} {mg : Str -> Option Value} {E E' : XK} {H : Hp} {ρ : Tk} {P : α -> Store -> Hp -> Tk -> Prop} {r : Res α} (h : Acc mg E H ρ P (noX r)) : Acc mg E' H ρ P r:=by
  cases r with
  | ok a st=>exact h
  | exc x st=>exact h.elim
  | stuck=>exact h
theorem Res.assoc {α β γ : Type} (r : Res α) (f : α -> Store -> Res β) (g : β -> Store -> Res γ) : (r.bind f).bind g = r.bind fun a st=>(f a st).bind g:=by cases r <;> rfl
theorem Acc.assoc {α β γ : Type} {mg : Str -> Option Value} {E : XK} {H : Hp} {ρ : Tk} {P : γ -> Store -> Hp -> Tk -> Prop} {r : Res α} {f : α -> Store -> Res β} {g : β -> Store -> Res γ} (h : Acc mg E H ρ P ((r.bind f).bind g)) : Acc mg E H ρ P (r.bind fun a st=>(f a st).bind g):=by
  rw [<- Res.assoc]; exact h
theorem EnvR.le {H : Hp} {ρ : Tk} {Γ Γ' : Gam} {σ : St} (h : EnvR H ρ Γ' σ) (hl : Γ.length = σ.length) (k : ∀ (i : Nat) (q : PV),Γ[i]? = some (some q) -> Γ'[i]? = some (some q)) : EnvR H ρ Γ σ:=⟨hl,fun i p e=>h.2 i p (k i p e)⟩
section
variable {X : Cx} {E : XK} {pos : Pos} {tg iter elt : Expr} {ifs : List Expr} {N N' : List Str} {sc scE : Scope} {cap : List (Option Nat)} {ga : GA} {mi : MI} {mt : MT} {me : ME}
def aE (X : Cx) (N' : List Str) (sc : Scope) (e : Expr) : TE:=fun σ H Q=>∀ cl C s0 H0 ex,WE (blkC X N' sc cl C s0 H0 ex) e σ H Q
def aG (X : Cx) (N' : List Str) (sc : Scope) (tg : Expr) : TG:=fun v σ H Q=>∀ cl C s0 H0 ex,WGx (blkC X N' sc cl C s0 H0 ex) tg v σ H Q
def aT (X : Cx) (N' : List Str) (sc : Scope) (ifs : List Expr) : TT:=fun σ H Q=>∀ cl C s0 H0 ex,∃ t,PTs (blkC X N' sc cl C s0 H0 ex) ifs t /\ t σ H Q
theorem comp_body {Γ : Gam} {σ : St} {H1 : Hp} {ρ1 : Tk} {st1 : Store} {J : It} {items : List PV} {w : Wt} {Q : VK} {P : List PV -> Store -> Hp -> Tk -> Prop} (hg : ∀ cl C s0 H0 ex,SimG (blkC X N' sc cl C s0 H0 ex) tg ga) (he : ∀ cl C s0 H0 ex,SimE (blkC X N' sc cl C s0 H0 ex) E0 elt me) (ht : ∀ cl C s0 H0 ex,SimTs (blkC X N' sc cl C s0 H0 ex) ifs mt)
    (hf : FreeT cap ga) (R1 : Rel H1 ρ1 st1) (G1 : EnvR H1 ρ1 Γ σ) (src : Src J items w H1 ρ1) (hlen : items.length <= sizeLine) (h : Acc X.mg E0 H1 ρ1 P (compG ga mt me w (capG cap Γ) items st1))
    (k : ∀ ys st2 H2 ρ2 acc vs,compG ga mt me w (capG cap Γ) items st1 = .ok ys st2 -> Ext H1 ρ1 H2 ρ2 -> Rel H2 ρ2 st2 -> acc ∈ ρ2.hid -> H1 acc = none -> H2 acc = some (.lst vs) -> RepL H2 ρ2 ys vs -> Q (.ref acc) H2) : compBodyT J cap (aG X N' sc tg) (aT X N' sc ifs) (aE X N' sc elt) σ H1 Q:=by
  intro acc hacc
  let W : Nat -> Nat -> List V -> St -> Hp -> Prop:=fun i m vs σ' H'=>m = items.length - i /\ i <= items.length /\ vs.length <= i /\ ∃ ρ' st' ys,Ext H1 ρ1 H' ρ' /\ acc ∈ ρ'.hid /\ Rel H' ρ' st' /\ EnvR H' ρ' (capG cap Γ) σ' /\ H' acc = some (.lst vs) /\ RepL H' ρ' ys vs /\
    compG ga mt me w (capG cap Γ) items st1 = (compG ga mt me w (capG cap Γ) (items.drop i) st').bind fun zs st3=>.ok (ys ++ zs) st3
  refine ⟨W,⟨_,rfl,Nat.zero_le _,Nat.le_refl _,ρ1.hide acc,st1,[],Ext.hide hacc,List.mem_cons_self,R1.hide hacc,(G1.cap cap).hide hacc,upd_same,rfl,?_⟩,?_⟩
  · rw [List.drop_zero]
    cases r : compG ga mt me w (capG cap Γ) items st1 with
    | ok zs st3=>rfl
    | exc x st3=>rfl
    | stuck=>rfl
  rintro i m vs σ' H' ⟨hm,hi,hvl,ρ',st',ys,x,hmem,R',G',ha,ry,hq⟩
  have hA : Acc X.mg E0 H1 ρ1 P ((compG ga mt me w (capG cap Γ) (items.drop i) st').bind fun zs st3=>.ok (ys ++ zs) st3):=by rw [<- hq]; exact h
  refine ⟨ha,?_⟩
  by_cases hlt : i < items.length
  · right
    have hd : items.drop i = items[i] :: items.drop (i + 1):=List.drop_eq_getElem_cons hlt
    rw [hd,compG] at hA hq
    by_cases hw : wOk w st'
    · rw [if_pos hw] at hA hq
      refine ⟨src.go H' _ st' x R' hw i hlt,by omega,fun y H2 hy=>?_⟩
      obtain ⟨sm,ry2⟩:=src.yld H' _ st' x R' hw i _ (List.getElem?_eq_getElem hlt) y H2 hy
      cases eg : ga items[i] (capG cap Γ) with
      | none=>rw [eg] at hA; exact hA.elim
      | some Γ1=>
        rw [eg] at hA hq
        have x2 : Ext H' ρ' H2 ρ':=Ext.same sm
        have R2:=R'.same sm
        intro cl C s0 H0 ex
        refine (hg cl C s0 H0 ex).run (capG cap Γ) Γ1 σ' H2 ρ' _ y _ (G'.ext x2) ry2 eg fun σ3 G3=>?_
        intro cl C s0 H0 ex
        have hA2:=Acc.later hA (x.trans x2)
        refine (ht cl C s0 H0 ex).run Γ1 σ3 H2 ρ' st' _ _ R2 G3 (Acc.bind (Acc.assoc hA2)) fun b st4 H4 ρ4 e4 x4 R4 G4=>?_
        simp only [e4,Res.bind] at hA hq
        have G0 : ∀ {H'' : Hp} {ρ'' : Tk},EnvR H'' ρ'' Γ1 σ3 -> EnvR H'' ρ'' (capG cap Γ) σ3:=fun {H'' ρ''} g=>g.le (by
          rw [<- G3.1]
          exact (hf Γ _ Γ1 eg).1.symm) (hf Γ _ Γ1 eg).2
        have x14 : Ext H1 ρ1 H4 ρ4:=x.trans (x2.trans x4)
        have hm4 : acc ∈ ρ4.hid:=x4.hidM acc hmem
        have na : acc ∉ ρ'.tr:=R'.ap acc hmem
        have ha4 : H4 acc = some (.lst vs):=x4.keep acc _ (sm acc _ ha) na
        have ry4 : RepL H4 ρ4 ys vs:=ry.ext (x2.trans x4)
        cases b with
        | false=>
          rw [if_neg Bool.false_ne_true] at hA hq ⊢
          exact ⟨_,show items.length - (i + 1) < m by omega,rfl,hlt,by omega,ρ4,st4,ys,x14,hm4,R4,G0 G4,ha4,ry4,hq⟩
        | true=>
          rw [if_pos rfl] at hA hq ⊢
          intro cl C s0 H0 ex
          have hA4:=Acc.later hA x14
          refine (he cl C s0 H0 ex).use' R4 G4 (Acc.bind (Acc.assoc hA4)) fun z st5 H5 ρ5 zv e5 x5 R5 G5 r5 h5=>?_
          simp only [e5,Res.bind] at hA hq
          have hm5 : acc ∈ ρ5.hid:=x5.hidM acc hm4
          have ha5 : H5 acc = some (.lst vs):=x5.keep acc _ ha4 (R4.ap acc hm4)
          have x15 : Ext H1 ρ1 H5 ρ5:=x14.trans x5
          refine ⟨ha5,_,show items.length - (i + 1) < m by omega,rfl,hlt,by rw [List.length_append]; simp; omega,ρ5,st5,ys ++ [z],x15.put0 hacc,hm5,R5.rehide hm5,(G0 G5).rehide hm5,upd_same,((ry4.ext x5).append (RepL.cons r5 RepL.nil)).rehide hm5,?_⟩
          refine hq.trans ?_
          cases rr : compG ga mt me w (capG cap Γ) (items.drop (i + 1)) st5 with
          | ok zs st6=>
            show Res.ok (ys ++ z :: zs) st6 = Res.ok ((ys ++ [z]) ++ zs) st6
            rw [List.append_assoc]; rfl
          | exc x6 st6=>rfl
          | stuck=>rfl
    · rw [if_neg hw] at hA; exact hA.elim
  · left
    have ei : i = items.length:=by omega
    subst ei
    rw [List.drop_length,compG] at hA hq
    by_cases hw : wOk w st'
    · rw [if_pos hw] at hA hq
      refine ⟨src.stop H' _ st' x R' hw,?_⟩
      have hq : compG ga mt me w (capG cap Γ) items st1 = .ok (ys ++ []) st':=hq
      rw [List.append_nil] at hq
      exact k ys st' H' ρ' acc vs hq x R' hmem hacc ha ry
    · rw [if_neg hw] at hA; exact hA.elim
theorem comp_run {Γ : Gam} {σ : St} {H : Hp} {ρ : Tk} {st : Store} {Q : VK} {P : List PV -> Store -> Hp -> Tk -> Prop} (hi : SimI X E tg iter mi) (hg : ∀ cl C s0 H0 ex,SimG (blkC X N' sc cl C s0 H0 ex) tg ga) (he : ∀ cl C s0 H0 ex,SimE (blkC X N' sc cl C s0 H0 ex) E0 elt me) (ht : ∀ cl C s0 H0 ex,SimTs (blkC X N' sc cl C s0 H0 ex) ifs mt)
    (hf : FreeT cap ga) (R : Rel H ρ st) (G : EnvR H ρ Γ σ) (h : Acc X.mg E H ρ P (mCompN cap ga mi mt me Γ st)) (k : ∀ ps st2 H2 ρ2 a vs,mCompN cap ga mi mt me Γ st = .ok ps st2 -> Ext H ρ H2 ρ2 -> Rel H2 ρ2 st2 -> a ∈ ρ2.hid -> H a = none -> H2 a = some (.lst vs) -> RepL H2 ρ2 ps vs -> Q (.ref a) H2) : tCompT cap (WI X tg iter) (aG X N' sc tg) (aT X N' sc ifs) (aE X N' sc elt) σ H Q:=by
  refine hi.run Γ σ H ρ st _ _ R G h.bind fun iw st1 H1 ρ1 J eq x1 R1 G1 ok hl src h1=>?_
  refine comp_body hg he ht hf R1 G1 src hl (acc_noX (E':=E0) h1) fun ys st2 H2 ρ2 acc vs eq2 x2 R2 hm hn ha ry=>?_
  refine k ys st2 H2 ρ2 acc vs ?_ (x1.trans x2) R2 hm ?_ ha ry
  · unfold mCompN
    rw [eq]
    show noX _ = _
    rw [eq2]; rfl
  cases e : H acc with
  | none=>rfl
  | some o=>
    obtain ⟨o',e'⟩:=x1.old acc o e
    rw [hn] at e'; cases e'
theorem pg_a {N' : List Str} {sc : Scope} {tg : Expr} : ∀ cl C s0 H0 ex,PG (blkC X N' sc cl C s0 H0 ex) tg (aG X N' sc tg):=fun cl C s0 H0 ex pins s σ H v u Q I r h=>pg_x pins s σ H v u Q I r (h cl C s0 H0 ex)
theorem pe_a {N' : List Str} {sc : Scope} {e : Expr} : ∀ cl C s0 H0 ex,PE (blkC X N' sc cl C s0 H0 ex) e (aE X N' sc e):=fun cl C s0 H0 ex pins s σ H Q I h=>h cl C s0 H0 ex pins s I
theorem pts_a {N' : List Str} {sc : Scope} {ifs : List Expr} : ∀ cl C s0 H0 ex,PTs (blkC X N' sc cl C s0 H0 ex) ifs (aT X N' sc ifs):=fun cl C s0 H0 ex pins s σ H Q I h=>by
  obtain ⟨t,a,b⟩:=h cl C s0 H0 ex
  exact a pins s σ H Q I b
theorem sn_comp (cap : List (Option Nat)) (N' : List Str) (hcalm : X.calm = true) (hi : SimI X E tg iter mi) (hg : ∀ cl C s0 H0 ex,SimG (blkC X N' sc cl C s0 H0 ex) tg ga) (he : ∀ cl C s0 H0 ex,SimE (blkC X N' sc cl C s0 H0 ex) E0 elt me) (ht : ∀ cl C s0 H0 ex,SimTs (blkC X N' sc cl C s0 H0 ex) ifs mt)
    (hf : FreeT cap ga) (hN : X.N = N:=by rfl) (hE : X.env.scope = scE:=by rfl) (hc : compOkC N N' sc scE cap = true:=by kernel_rfl) (hs : ∀ x,foldedSetIterable iter X.env x = pure x:=by intro _; rfl) :
    SimN X E (.ListComp elt [⟨tg,iter,ifs,0⟩] sc pos) (mCompN cap ga mi mt me):=
  ⟨fun Γ σ H ρ st P Q R G h k=>WE.of (pe_compT hcalm pi_w pg_a pe_a pts_a hN hE hc hs) (comp_run hi hg he ht hf R G h k)⟩
end
end Sm
namespace Sm
open PySem PySem.Spec L2
inductive SR where
  | nx (Γ : Gam) (st : Store) | rt (v : PV) (st : Store) | bk (Γ : Gam) (st : Store) | ct (Γ : Gam) (st : Store) | exc (x : Exc) (st : Store) | stuck
abbrev MS:=Gam -> Store -> SR
def Res.sbind {α : Type} (r : Res α) (f : α -> Store -> SR) : SR:=match r with
  | .ok a st=>f a st
  | .exc x st=>.exc x st
  | .stuck=>.stuck
def AccS (mg : Str -> Option Value) (E : XK) (D : Ends) (H : Hp) (ρ : Tk) : SR -> Prop
  | .nx Γ st=>∀ σ' H' ρ',Ext H ρ H' ρ' -> Rel H' ρ' st -> EnvR H' ρ' Γ σ' -> D.nx σ' H'
  | .bk Γ st=>∀ σ' H' ρ',Ext H ρ H' ρ' -> Rel H' ρ' st -> EnvR H' ρ' Γ σ' -> D.bk σ' H'
  | .ct Γ st=>∀ σ' H' ρ',Ext H ρ H' ρ' -> Rel H' ρ' st -> EnvR H' ρ' Γ σ' -> D.ct σ' H'
  | .rt p st=>∀ v H' ρ',Ext H ρ H' ρ' -> Rel H' ρ' st -> Rep H' ρ' p v -> D.rt v H'
  | .exc x st=>∀ C dv H' ρ',mg x.cls = some (.ref C) -> Ext H ρ H' ρ' -> Rel H' ρ' st -> XFs H' ρ' x.fs dv -> E (.ref C) dv H'
  | .stuck=>False
section
variable {α : Type} {mg : Str -> Option Value} {E : XK} {D : Ends} {H H1 : Hp} {ρ ρ1 : Tk}
theorem AccS.later {r : SR} (h : AccS mg E D H ρ r) (x : Ext H ρ H1 ρ1) : AccS mg E D H1 ρ1 r:=by
  cases r with
  | nx Γ st=>exact fun σ' H' ρ' x'=>h σ' H' ρ' (x.trans x')
  | bk Γ st=>exact fun σ' H' ρ' x'=>h σ' H' ρ' (x.trans x')
  | ct Γ st=>exact fun σ' H' ρ' x'=>h σ' H' ρ' (x.trans x')
  | rt p st=>exact fun v H' ρ' x'=>h v H' ρ' (x.trans x')
  | exc y st=>exact fun C dv H' ρ' m x'=>h C dv H' ρ' m (x.trans x')
  | stuck=>exact h
theorem AccS.bind {r : Res α} {f : α -> Store -> SR} (h : AccS mg E D H ρ (r.sbind f)) : Acc mg E H ρ (fun a st1 H1 ρ1=>AccS mg E D H1 ρ1 (f a st1)) r:=by
  cases r with
  | ok a st=>exact fun H' ρ' x' R'=>AccS.later (show AccS mg E D H ρ (f a st) from h) x'
  | exc e st=>exact h
  | stuck=>exact h
end
theorem Res.sassoc {α β : Type} (r : Res α) (f : α -> Store -> Res β) (g : β -> Store -> SR) : (r.bind f).sbind g = r.sbind fun a st=>(f a st).sbind g:=by cases r <;> rfl
theorem AccS.assoc {α β : Type} {mg : Str -> Option Value} {E : XK} {D : Ends} {H : Hp} {ρ : Tk} {r : Res α} {f : α -> Store -> Res β} {g : β -> Store -> SR} (h : AccS mg E D H ρ ((r.bind f).sbind g)) : AccS mg E D H ρ (r.sbind fun a st=>(f a st).sbind g):=by
  rw [<- Res.sassoc]; exact h
structure SimS (X : Cx) (E : XK) (s : Stmt) (m : MS) : Prop where
  run : ∀ (Γ : Gam) (σ : St) (H : Hp) (ρ : Tk) (st : Store) (D : Ends),Rel H ρ st -> EnvR H ρ Γ σ -> AccS X.mg E D H ρ (m Γ st) -> WS X s D σ H
structure SimB (X : Cx) (E : XK) (ss : List Stmt) (m : MS) : Prop where
  run : ∀ (Γ : Gam) (σ : St) (H : Hp) (ρ : Tk) (st : Store) (D : Ends),Rel H ρ st -> EnvR H ρ Γ σ -> AccS X.mg E D H ρ (m Γ st) -> WB X ss D σ H
section
variable {X : Cx} {E : XK} {pos : Pos} {e : Expr} {m : ME}
def mNext : MS:=fun Γ st=>.nx Γ st
def mSeqS (m1 m2 : MS) : MS:=fun Γ st=>match m1 Γ st with
  | .nx Γ1 st1=>m2 Γ1 st1
  | r=>r
theorem sb_nil : SimB X E [] mNext:=⟨fun Γ σ H ρ st D R G h=>WB.of pss_nil (h σ H ρ (Ext.refl _ _) R G)⟩
theorem sb_cons {s : Stmt} {rest : List Stmt} {m1 m2 : MS} (h1 : SimS X E s m1) (h2 : SimB X E rest m2) : SimB X E (s :: rest) (mSeqS m1 m2):=
  ⟨fun Γ σ H ρ st D R G h=>WB.of (pss_cons ps_w pss_w) (h1.run Γ σ H ρ st _ R G (by
    unfold mSeqS at h
    cases r : m1 Γ st with
    | nx Γ1 st1=>rw [r] at h; exact fun σ' H' ρ' x' R' G'=>h2.run Γ1 σ' H' ρ' st1 D R' G' (AccS.later h x')
    | bk Γ1 st1=>rw [r] at h; exact h
    | ct Γ1 st1=>rw [r] at h; exact h
    | rt p st1=>rw [r] at h; exact h
    | exc x st1=>rw [r] at h; exact h
    | stuck=>rw [r] at h; exact h))⟩
theorem sb_one {s : Stmt} {m1 : MS} (h1 : SimS X E s m1) : SimB X E [s] m1:=⟨fun Γ σ H ρ st D R G h=>WB.of (pss_one ps_w) (h1.run Γ σ H ρ st D R G h)⟩
def mExpr (m : ME) : MS:=fun Γ st=>(m Γ st).sbind fun _ st1=>.nx Γ st1
theorem ss_expr (he : SimE X E e m) (hs : swapsWith e none pos.line X.env = pure false:=by rfl) : SimS X E (.Expr e pos) (mExpr m):=
  ⟨fun Γ σ H ρ st D R G h=>WS.of (ps_expr pe_w hs) (he.use R G h.bind fun p st1 H1 ρ1 v x1 R1 G1 r1 h1=>h1 σ H1 ρ1 (Ext.refl _ _) R1 G1)⟩
def mRet (m : ME) : MS:=fun Γ st=>(m Γ st).sbind fun p st1=>.rt p st1
theorem ss_ret (he : SimE X E e m) : SimS X E (.Return (some e) pos) (mRet m):=
  ⟨fun Γ σ H ρ st D R G h=>WS.of (ps_ret pe_w) (he.use R G h.bind fun p st1 H1 ρ1 v x1 R1 G1 r1 h1=>h1 v H1 ρ1 (Ext.refl _ _) R1 r1)⟩
def mRetN : MS:=fun _ st=>.rt .non st
def mSet (i : Nat) (m : ME) : MS:=fun Γ st=>(m Γ st).sbind fun p st1=>.nx (Γ.set i (some p)) st1
theorem ss_set (i : Nat) {x : Str} {pos' : Pos} (hN : X.N.Nodup) (he : SimE X E e m) (hi : X.N[i]? = some x:=by rfl) (hx : Loc X.env.scope x:=by first | exact Or.inl rfl | exact Or.inr rfl) (hs : swapsWith e (some (.Name x pos')) pos.line X.env = pure false:=by rfl) (hf : X.fn x = true \/ X.env.scope.names.lookup x = some .local:=by first | exact .inl rfl | exact .inr rfl) :
    SimS X E (.Assign [.Name x pos'] e pos) (mSet i m):=
  ⟨fun Γ σ H ρ st D R G h=>WS.of (ps_set hN hi hx pe_w hs hf) (he.use R G h.bind fun p st1 H1 ρ1 v x1 R1 G1 r1 h1=>h1 _ H1 ρ1 (Ext.refl _ _) R1 (G1.set r1 i))⟩
section
variable {tg iter elt : Expr} {ifs : List Expr} {N N' : List Str} {sc scE : Scope} {ga : GA} {mi : MI} {mt : MT} {me : ME}
theorem ss_compT (cap : List (Option Nat)) (N' : List Str) (i : Nat) {x : Str} {px cpos : Pos} (hnd : X.N.Nodup) (hcalm : X.calm = true) (hi : SimI X E tg iter mi) (hg : ∀ cl C s0 H0 ex,SimG (blkC X N' sc cl C s0 H0 ex) tg ga) (he : ∀ cl C s0 H0 ex,SimE (blkC X N' sc cl C s0 H0 ex) E0 elt me) (ht : ∀ cl C s0 H0 ex,SimTs (blkC X N' sc cl C s0 H0 ex) ifs mt)
    (hf : FreeT cap ga) (hix : X.N[i]? = some x:=by rfl) (hx : Loc X.env.scope x:=by first | exact Or.inl rfl | exact Or.inr rfl) (hsw : swapsWith (.ListComp elt [⟨tg,iter,ifs,0⟩] sc cpos) (some (.Name x px)) pos.line X.env = pure true:=by rfl)
    (hN : X.N = N:=by rfl) (hE : X.env.scope = scE:=by rfl) (hc : compOkC N N' sc scE cap = true:=by kernel_rfl) (hs : ∀ x,foldedSetIterable iter X.env x = pure x:=by intro _; rfl) (hfn : X.fn x = true \/ X.env.scope.names.lookup x = some .local:=by first | exact .inl rfl | exact .inr rfl) :
    SimS X E (.Assign [.Name x px] (.ListComp elt [⟨tg,iter,ifs,0⟩] sc cpos) pos) (mSet i (mTrk (mCompN cap ga mi mt me))):=
  ⟨fun Γ σ H ρ st D R G h=>WS.of (ps_compT hnd hix hx hcalm pi_w pg_a pe_a pts_a hsw hN hE hc hs hfn) (comp_run hi hg he ht hf R G (AccS.bind (by unfold mSet mTrk at h; exact AccS.assoc h)) fun ps st1 H1 ρ1 a vs eq x R1 hm hn ha r=>by
    obtain ⟨x2,R2,r2⟩:=out_trk R x R1 hm hn ha r
    simp only [mSet,mTrk,eq,Res.bind,Res.sbind] at h
    exact h _ _ _ x2 R2 ((G.ext x2).set r2 i))⟩
end
def mAsg (ga : GA) (m : ME) : MS:=fun Γ st=>(m Γ st).sbind fun p st1=>match ga p Γ with
  | some Γ1=>.nx Γ1 st1
  | none=>.stuck
def setIx (st : Store) (o i p : PV) : Option Store:=match o,i with
  | .ref k,.int j=>match st[k]? with
    | some (.lst xs)=>(ixN xs.length j).map fun n=>st.set k (.lst (xs.set n p))
    | _=>none
  | _,_=>none
def mSetIx (mo mi m : ME) : MS:=fun Γ st=>(m Γ st).sbind fun p st1=>(mo Γ st1).sbind fun o st2=>(mi Γ st2).sbind fun i st3=>match setIx st3 o i p with
  | some st4=>.nx Γ st4
  | none=>.stuck
theorem set_run {H : Hp} {ρ : Tk} {st st' : Store} {o i p : PV} {x y z : V} (R : Rel H ρ st) (ro : Rep H ρ o x) (ri : Rep H ρ i y) (rp : Rep H ρ p z) (e : setIx st o i p = some st') :
    ∃ a vs k j,x = .ref a /\ y = .int k /\ H a = some (.lst vs) /\ ixN vs.length k = some j /\ Ext H ρ (upd H a (.lst (vs.set j z))) ρ /\ Rel (upd H a (.lst (vs.set j z))) ρ st':=by
  unfold setIx at e
  split at e
  · rename_i k j
    split at e
    · rename_i xs hs
      cases ej : ixN xs.length j with
      | none=>rw [ej] at e; cases e
      | some n=>
        rw [ej] at e
        have e : st.set k (.lst (xs.set n p)) = st':=Option.some.inj e
        subst e
        obtain ⟨a,ea,rfl⟩:=ro
        cases ri
        obtain ⟨b,vs,f1,f2,f3⟩:=R.lst hs
        rw [ea] at f1; cases f1
        exact ⟨a,vs,j,n,rfl,rfl,f2,by rw [<- f3.length]; exact ej,Ext.put (List.mem_of_getElem? ea) f2,R.put ea f2 (f3.set rp n)⟩
    · cases e
  · cases e
theorem ss_sub {o i : Expr} {mo mi : ME} {tpos : Pos} (he : SimE X E e m) (ho : SimE X E o mo) (hi : SimE X E i mi)
    (ha : ∀ v,assign (.Subscript o i tpos) X.env v = (do
      let ov <- holding [v] (eval o X.env)
      let iv <- holding [v,ov] (eval i X.env)
      standAt tpos
      holding [v,ov,iv] (setItem ov iv v)
      release [v,ov,iv] []):=by intro _; rfl)
    (hs : swapsWithSole [.Subscript o i tpos] e pos.line X.env = pure false:=by rfl) (hw : swappedStores [.Subscript o i tpos] e X.env = pure none:=by rfl) (h1 : (assignEach [.Subscript o i tpos] X.env).map (·.2) = [assign (.Subscript o i tpos) X.env]:=by rfl) :
    SimS X E (.Assign [.Subscript o i tpos] e pos) (mSetIx mo mi m):=
  ⟨fun Γ σ H ρ st D R G h=>WS.of (ps_asg pe_w (pg_sub pe_w pe_w set_list ha) hs hw h1) (he.use R G h.bind fun p st1 H1 ρ1 z x1 R1 G1 r1 h1=>ho.use R1 G1 h1.bind fun ov st2 H2 ρ2 x x2 R2 G2 r2 h2=>hi.use R2 G2 h2.bind fun iv st3 H3 ρ3 y x3 R3 G3 r3 h3=>by
    cases es : setIx st3 ov iv p with
    | none=>rw [es] at h3; exact h3.elim
    | some st4=>
      rw [es] at h3
      obtain ⟨a,vs,k,j,rfl,rfl,f1,f2,x4,R4⟩:=set_run R3 (r2.ext x3) r3 (r1.ext (x2.trans x3)) es
      exact ⟨a,vs,k,j,rfl,rfl,f1,f2,h3 σ _ ρ3 x4 R4 (G3.ext x4)⟩)⟩
def mIfS (mt : MT) (ma mb : MS) : MS:=fun Γ st=>(mt Γ st).sbind fun b st1=>if b = true then ma Γ st1 else mb Γ st1
theorem ss_if {c : Expr} {a b : List Stmt} {mt : MT} {ma mb : MS} (hc : SimT X E c mt) (ha : SimB X E a ma) (hb : SimB X E b mb) : SimS X E (.If c a b pos) (mIfS mt ma mb):=
  ⟨fun Γ σ H ρ st D R G h=>WS.of (ps_if pt_w pss_w pss_w) (hc.use R G h.bind fun k st1 H1 ρ1 x1 R1 G1 h1=>by
    cases k with
    | true=>rw [if_pos rfl] at h1 ⊢; exact ha.run Γ σ H1 ρ1 st1 D R1 G1 h1
    | false=>rw [if_neg Bool.false_ne_true] at h1 ⊢; exact hb.run Γ σ H1 ρ1 st1 D R1 G1 h1)⟩
open Classical in
def forG (ga : GA) (body : MS) (w : Wt) : List PV -> Gam -> Store -> SR
  | [],Γ,st=>if wOk w st then .nx Γ st else .stuck
  | x :: xs,Γ,st=>if wOk w st then (match ga x Γ with
    | none=>.stuck
    | some Γ1=>match body Γ1 st with
      | .nx Γ2 st2=>forG ga body w xs Γ2 st2
      | .ct Γ2 st2=>forG ga body w xs Γ2 st2
      | .bk Γ2 st2=>.nx Γ2 st2
      | .rt v st2=>.rt v st2
      | .exc x st2=>.exc x st2
      | .stuck=>.stuck) else .stuck
def mFor (ga : GA) (mi : MI) (body : MS) : MS:=fun Γ st=>(mi Γ st).sbind fun iw st1=>forG ga body iw.2 iw.1 Γ st1
theorem ss_for {tg iter : Expr} {bd : List Stmt} {ga : GA} {mi : MI} {body : MS} (hp : PassesOwn (model X.prog X.w) X.A X.env X.xe) (hc : X.calm = true) (hi : SimI X E tg iter mi) (hg : SimG X tg ga) (hb : SimB X E bd body)
    (hs : ∀ x,foldedSetIterable iter X.env x = pure x:=by intro _; rfl) : SimS X E (.For tg iter bd [] pos) (mFor ga mi body):=
  ⟨fun Γ σ H ρ st D R G h=>WS.of (ps_for hp hc pi_w pg_x pss_w hs) (hi.run Γ σ H ρ st _ _ R G h.bind fun iw st1 H1 ρ1 J eq x1 R1 G1 ok hl src h1=>by
    let W : Nat -> Nat -> St -> Hp -> Prop:=fun i m σ' H'=>m = iw.1.length - i /\ i <= iw.1.length /\ ∃ Γ' ρ' st',Ext H1 ρ1 H' ρ' /\ Rel H' ρ' st' /\ EnvR H' ρ' Γ' σ' /\ AccS X.mg E D H' ρ' (forG ga body iw.2 (iw.1.drop i) Γ' st')
    refine ⟨W,⟨_,rfl,Nat.zero_le _,Γ,ρ1,st1,Ext.refl _ _,R1,G1,by rw [List.drop_zero]; exact h1⟩,?_⟩
    rintro i m σ' H' ⟨hm,hi',Γ',ρ',st',x,R',G',hA⟩
    by_cases hlt : i < iw.1.length
    · right
      have hd : iw.1.drop i = iw.1[i] :: iw.1.drop (i + 1):=List.drop_eq_getElem_cons hlt
      rw [hd,forG] at hA
      by_cases hw : wOk iw.2 st'
      · rw [if_pos hw] at hA
        refine ⟨src.go H' ρ' st' x R' hw i hlt,fun σ2 H2=>W (i + 1) (iw.1.length - (i + 1)) σ2 H2,fun σ2 H2 z=>⟨_,by omega,z⟩,fun y H2 hy=>?_⟩
        obtain ⟨sm,ry⟩:=src.yld H' ρ' st' x R' hw i _ (List.getElem?_eq_getElem hlt) y H2 hy
        have x2 : Ext H' ρ' H2 ρ':=Ext.same sm
        cases eg : ga iw.1[i] Γ' with
        | none=>rw [eg] at hA; exact hA.elim
        | some Γ1=>
          rw [eg] at hA
          refine hg.run Γ' Γ1 σ' H2 ρ' _ y _ (G'.ext x2) ry eg fun σ3 G3=>?_
          have hA2:=AccS.later hA x2
          simp only at hA2
          refine hb.run Γ1 σ3 H2 ρ' st' _ (R'.same sm) G3 ?_
          have again : ∀ {Γ2 : Gam} {st2 : Store},AccS X.mg E D H2 ρ' (forG ga body iw.2 (iw.1.drop (i + 1)) Γ2 st2) -> ∀ σ' H'' ρ'',Ext H2 ρ' H'' ρ'' -> Rel H'' ρ'' st2 -> EnvR H'' ρ'' Γ2 σ' -> W (i + 1) (iw.1.length - (i + 1)) σ' H'':=fun {Γ2 st2} a σ4 H4 ρ4 x4 R4 G4=>
            ⟨rfl,hlt,Γ2,ρ4,st2,x.trans (x2.trans x4),R4,G4,AccS.later a x4⟩
          cases rb : body Γ1 st' with
          | nx Γ2 st2=>rw [rb] at hA2; exact again hA2
          | ct Γ2 st2=>rw [rb] at hA2; exact again hA2
          | bk Γ2 st2=>rw [rb] at hA2; exact hA2
          | rt v st2=>rw [rb] at hA2; exact hA2
          | exc y st2=>rw [rb] at hA2; exact hA2
          | stuck=>rw [rb] at hA2; exact hA2.elim
      · rw [if_neg hw] at hA; exact hA.elim
    · left
      have ei : i = iw.1.length:=by omega
      subst ei
      rw [List.drop_length,forG] at hA
      by_cases hw : wOk iw.2 st'
      · rw [if_pos hw] at hA
        exact ⟨src.stop H' ρ' st' x R' hw,hA σ' H' ρ' (Ext.refl _ _) R' G'⟩
      · rw [if_neg hw] at hA; exact hA.elim)⟩
def mRaise (x : Str) (m : ME) : MS:=fun Γ st=>(m Γ st).sbind fun _ st1=>.exc ⟨x,none⟩ st1
theorem ss_raise {x : Str} {C : Addr} {np cpos : Pos} (hcalm : X.calm = true) (RO : RaiseD X E) (hg : Gl X x) (hm : X.mg x = some (.ref C)) (q : PySem.W.excIn X.K C bmVE "ValueError.__new__" = true) (he : SimE X E e m)
    (hdb : (x == ("__debug__" : Str)) = false:=by decide) (hst : starEach [e] X.env = [(false,eval e X.env)]:=by rfl) : SimS X E (.Raise (some (.Call (.Name x np) [e] [] cpos)) none pos) (mRaise x m):=
  ⟨fun Γ σ H ρ st D R G h=>WS.of (ps_raiseD hcalm RO hg hm q (pa_cons pe_w pa_nil (by rw [hst]; rfl)) hdb hst) (he.use R G h.bind fun p st1 H1 ρ1 v x1 R1 G1 r1 h1=>⟨Nat.le_trans (show 1 <= lim by decide) lim_le,h1 C none H1 ρ1 hm (Ext.refl _ _) R1 rfl⟩)⟩
end
end Sm
namespace Sm
open PySem PySem.Spec L2
def WM (X : Cx) (id : String) : V -> List V -> Hp -> VK -> Prop:=fun x xs H Q=>∀ (pins : List (Addr × Obj)) (s : Shared) (σ : St) (v : Value) (us : List Value),Inv X pins σ H s -> RelV x v -> Vals xs us -> wpAny (model X.prog X.w) X.A (call (.builtin id) (v :: us)) (EP X pins σ Q) X.xe s
theorem mt_w {X : Cx} {id : String} : MtR X id (WM X id):=fun pins s σ _ _ _ v us _ I r rs h=>h pins s σ v us I r rs
theorem WM.of {X : Cx} {id : String} {r : V -> List V -> Hp -> VK -> Prop} {x : V} {xs : List V} {H : Hp} {Q : VK} (h : MtR X id r) (q : r x xs H Q) : WM X id x xs H Q:=fun pins s σ v us I r1 r2=>h pins s σ H x xs v us Q I r1 r2 q
abbrev MF:=Store -> PV -> List PV -> Res PV
structure MtS (X : Cx) (E : XK) (id : String) (o : MF) : Prop where
  run : ∀ (H : Hp) (ρ : Tk) (st : Store) (p : PV) (ps : List PV) (x : V) (xs : List V) (Q : VK),Rel H ρ st -> Rep H ρ p x -> RepL H ρ ps xs -> Acc X.mg E H ρ (QV Q) (o st p ps) -> WM X id x xs H Q
section
variable {X : Cx} {E : XK} {o e : Expr} {es : List Expr} {mo : ME} {mr : Gam -> Store -> Res (List PV)} {name : Str} {apos cpos : Pos} {T id : String} {f : MF}
def mBM (f : MF) (mo : ME) (mr : Gam -> Store -> Res (List PV)) : ME:=fun Γ st=>(mo Γ st).bind fun p st1=>match listOf st1 p with
  | some _=>(mr Γ st1).bind fun ps st2=>f st2 p ps
  | none=>.stuck
theorem se_bm (pa : PlainAttrs "list") (slot : Slot "list" name id) (hty : typeOf (.builtin id) = pure (.type "method_descriptor")) (hm : MtS X E id f) (ho : SimE X E o mo) (ha : SimA X E (e :: es) mr)
    (hbase : attributeBase o name X.env (eval o X.env) = eval o X.env:=by rfl)
    (hfew : ((backTo cpos (starEach (e :: es) X.env)).all (fun x=>!x.1) && (backToKw cpos (keywordEach [] X.env)).all (fun x=>x.1.isSome)
      && decide ((e :: es).length + ([] : List Keyword).length + (if ([] : List Keyword).isEmpty then 0 else 1) < 30)) = true:=by rfl)
    (hline : (apos.endLine == cpos.line) = true:=by rfl) (hs : starEach (e :: es) X.env = (false,eval e X.env) :: starEach es X.env:=by rfl) (hplain : (backTo cpos (starEach es X.env)).any (·.1) = false:=by rfl) :
    SimE X E (.Call (.Attribute o name apos) (e :: es) [] cpos) (mBM f mo mr):=
  ⟨fun Γ σ H ρ st Q R G h=>WE.of (pe_bm pa slot hty mt_w pe_w pa_w hbase hfew hline hs hplain) (ho.use R G h.bind fun p st1 H1 ρ1 v x1 R1 G1 r1 h1=>by
    split at h1
    · rename_i ys el
      obtain ⟨a,vs,rfl,hr,_⟩:=list_at R1 r1 el
      exact ⟨.inl ⟨rfl,vs,.inl hr⟩,ha.use R1 G1 h1.bind fun ps st2 H2 ρ2 us x2 R2 G2 r2 h2=>hm.run H2 ρ2 st2 p ps _ us Q R2 (r1.ext x2) r2 h2⟩
    · exact h1.elim)⟩
def chg (st : Store) (p : PV) (g : List PV -> Option (PV × List PV)) : Res PV:=match p with
  | .ref i=>match st[i]? with
    | some (.lst xs)=>match g xs with
      | some (r,ys)=>.ok r (st.set i (.lst ys))
      | none=>.stuck
    | _=>.stuck
  | _=>.stuck
theorem chg_run {mg : Str -> Option Value} {H : Hp} {ρ : Tk} {st : Store} {p : PV} {x : V} {g : List PV -> Option (PV × List PV)} {Q : VK} (R : Rel H ρ st) (rp : Rep H ρ p x) (h : Acc mg E H ρ (QV Q) (chg st p g)) :
    ∃ a xs vs r ys,x = .ref a /\ H a = some (.lst vs) /\ RepL H ρ xs vs /\ g xs = some (r,ys) /\ ∀ us v,RepL H ρ ys us -> Rep H ρ r v -> Q v (upd H a (.lst us)):=by
  unfold chg at h
  split at h
  · rename_i i
    split at h
    · rename_i xs hs
      split at h
      · rename_i r ys hg
        obtain ⟨a,ea,rfl⟩:=rp
        obtain ⟨b,vs,f1,f2,f3⟩:=R.lst hs
        rw [ea] at f1; cases f1
        refine ⟨a,xs,vs,r,ys,rfl,f2,f3,hg,fun us v ru rv=>?_⟩
        have x:=Ext.put (o':=.lst us) (List.mem_of_getElem? ea) f2
        exact h _ ρ x (R.put ea f2 ru) v (rv.ext x)
      · exact h.elim
    · exact h.elim
  · exact h.elim
def mtAppend : MF:=fun st p ps=>match ps with
  | [y]=>chg st p fun xs=>if xs.length < lim then some (.non,xs ++ [y]) else none
  | _=>.stuck
theorem ms_append : MtS X E "list.append" mtAppend:=⟨fun H ρ st p ps x xs Q R rp rs h=>by
  unfold mtAppend at h
  split at h
  · obtain ⟨v,rfl,r⟩:=repL_one rs
    obtain ⟨a,ys,vs,r0,zs,rfl,f1,f2,f3,k⟩:=chg_run R rp h
    split at f3
    · rename_i hl
      cases f3
      exact WM.of mt_append ⟨a,vs,v,rfl,rfl,f1,by rw [<- f2.length]; exact Nat.lt_of_lt_of_le hl lim_le,k _ _ (f2.append (RepL.cons r RepL.nil)) rfl⟩
    · cases f3
  · exact h.elim⟩
theorem se_append (ho : SimE X E o mo) (ha : SimA X E [e] mr) (hbase : attributeBase o "append" X.env (eval o X.env) = eval o X.env:=by rfl)
    (hfew : ((backTo cpos (starEach [e] X.env)).all (fun x=>!x.1) && (backToKw cpos (keywordEach [] X.env)).all (fun x=>x.1.isSome) && decide ([e].length + ([] : List Keyword).length + (if ([] : List Keyword).isEmpty then 0 else 1) < 30)) = true:=by rfl)
    (hline : (apos.endLine == cpos.line) = true:=by rfl) (hs : starEach [e] X.env = (false,eval e X.env) :: starEach [] X.env:=by rfl) : SimE X E (.Call (.Attribute o "append" apos) [e] [] cpos) (mBM mtAppend mo mr):=
  se_bm PySem.F.plainAttrs_list PySem.F.slot_list_append PySem.F.type_list_append ms_append ho ha hbase hfew hline hs
end
end Sm
namespace Sm
open PySem PySem.Spec L2
mutual
def fz (n : Nat) (st : Store) : Nat -> PV -> Option PV
  | 0,_=>none
  | _ + 1,.non=>some .non
  | _ + 1,.bl b=>some (.bl b)
  | _ + 1,.int i=>some (.int i)
  | _ + 1,.str x=>some (.str x)
  | k + 1,.tup xs=>(fzL n st k xs).map .tup
  | k + 1,.lst xs=>(fzL n st k xs).map .lst
  | k + 1,.fro xs=>(fzL n st k xs).map .fro
  | _ + 1,.dic=>some .dic
  | k + 1,.ref i=>if i < n then some (.ref i) else match st[i]? with
    | some (.lst xs)=>(fzL n st k xs).map .lst
    | _=>none
def fzL (n : Nat) (st : Store) : Nat -> List PV -> Option (List PV)
  | _,[]=>some []
  | k,x :: xs=>(fz n st k x).bind fun y=>(fzL n st k xs).map (y :: ·)
end
theorem fz_good {n : Nat} {st : Store} : ∀ {m k : Nat} {p : PV},good m p = true -> m < k -> fz n st k p = some p:=by
  intro m
  induction m with
  | zero=>
    intro k p g hk
    obtain ⟨k,rfl⟩ : ∃ j,k = j + 1:=⟨k - 1,by omega⟩
    cases p with
    | tup _=>cases g
    | lst _=>cases g
    | fro _=>cases g
    | ref _=>cases g
    | dic=>cases g
    | _=>rw [fz]
  | succ m ih=>
    intro k p g hk
    obtain ⟨k,rfl⟩ : ∃ j,k = j + 1:=⟨k - 1,by omega⟩
    have hL : ∀ xs : List PV,xs.all (good m) = true -> fzL n st k xs = some xs:=by
      intro xs
      induction xs with
      | nil=>intro _; rw [fzL]
      | cons x xs ihx=>
        intro g
        rw [List.all_cons,Bool.and_eq_true] at g
        rw [fzL,ih g.1 (by omega),ihx g.2]; rfl
    cases p with
    | tup xs=>rw [fz,hL xs g]; rfl
    | lst xs=>rw [fz,hL xs g]; rfl
    | fro xs=>rw [fz,hL xs g]; rfl
    | ref _=>cases g
    | dic=>cases g
    | _=>rw [fz]
section
variable {H : Hp} {ρ : Tk} {st : Store} {tr0 rest hs : List Addr}
theorem fz_rep (R : Rel H ρ st) (ht : ρ.tr = tr0 ++ rest) (hh : ∀ a,a ∈ hs -> a ∈ ρ.hid) : ∀ (k : Nat) {p p' : PV} {v : V},Rep H ρ p v -> fz tr0.length st k p = some p' -> Rep H ⟨tr0,hs⟩ p' v:=by
  have out : ∀ a,a ∉ ρ -> a ∉ (⟨tr0,hs⟩ : Tk):=fun a n z=>by
    rcases z with z | z
    · exact n (.inl (by rw [ht]; exact List.mem_append_left _ z))
    · exact n (.inr (hh a z))
  intro k
  induction k with
  | zero=>intro p p' v r e; rw [fz] at e; cases e
  | succ k ih=>
    have hL : ∀ {ps ps' : List PV} {vs : List V},RepL H ρ ps vs -> fzL tr0.length st k ps = some ps' -> RepL H ⟨tr0,hs⟩ ps' vs:=by
      intro ps
      induction ps with
      | nil=>intro ps' vs r e; rw [fzL] at e; cases e; exact r
      | cons x xs ihx=>
        intro ps' vs r e
        obtain ⟨v,t,rfl,r1,r2⟩:=r
        rw [fzL] at e
        cases e1 : fz tr0.length st k x with
        | none=>rw [e1] at e; cases e
        | some y=>
          rw [e1] at e
          have e : (fzL tr0.length st k xs).map (y :: ·) = some ps':=e
          cases e2 : fzL tr0.length st k xs with
          | none=>rw [e2] at e; cases e
          | some ys=>
            rw [e2] at e
            cases e
            exact ⟨v,t,rfl,ih r1 e1,ihx r2 e2⟩
    intro p p' v r e
    cases p with
    | non=>rw [fz] at e; cases e; exact r
    | bl b=>rw [fz] at e; cases e; exact r
    | int i=>rw [fz] at e; cases e; exact r
    | str x=>rw [fz] at e; cases e; exact r
    | tup xs=>
      rw [fz] at e
      obtain ⟨a,vs,e1,ha,na,ra⟩:=r
      cases e2 : fzL tr0.length st k xs with
      | none=>rw [e2] at e; cases e
      | some ys=>rw [e2] at e; cases e; exact ⟨a,vs,e1,ha,out a na,hL ra e2⟩
    | lst xs=>
      rw [fz] at e
      obtain ⟨a,vs,e1,ha,na,ra⟩:=r
      cases e2 : fzL tr0.length st k xs with
      | none=>rw [e2] at e; cases e
      | some ys=>rw [e2] at e; cases e; exact ⟨a,vs,e1,ha,out a na,hL ra e2⟩
    | fro xs=>
      rw [fz] at e
      obtain ⟨a,vs,e1,ha,na,ra⟩:=r
      cases e2 : fzL tr0.length st k xs with
      | none=>rw [e2] at e; cases e
      | some ys=>rw [e2] at e; cases e; exact ⟨a,vs,e1,ha,out a na,hL ra e2⟩
    | dic=>
      rw [fz] at e
      cases e
      obtain ⟨a,e1,ha,na⟩:=r
      exact ⟨a,e1,ha,out a na⟩
    | ref i=>
      rw [fz] at e
      obtain ⟨a,ea,rfl⟩:=r
      by_cases hi : i < tr0.length
      · rw [if_pos hi] at e
        cases e
        rw [ht,List.getElem?_append_left hi] at ea
        exact ⟨a,ea,rfl⟩
      · rw [if_neg hi] at e
        split at e
        · rename_i xs hs'
          obtain ⟨b,vs,f1,f2,f3⟩:=R.lst hs'
          rw [ea] at f1; cases f1
          cases e2 : fzL tr0.length st k xs with
          | none=>rw [e2] at e; cases e
          | some ys=>
            rw [e2] at e; cases e
            refine ⟨a,vs,rfl,f2,fun z=>?_,hL f3 e2⟩
            rcases z with z | z
            · have z : a ∈ tr0:=z
              obtain ⟨j,hj,ej⟩:=List.getElem_of_mem z
              have g1 : ρ.tr[j]? = some a:=by rw [ht,List.getElem?_append_left hj,List.getElem?_eq_getElem hj,ej]
              have l1:=List.getElem?_eq_some_iff.mp g1
              have l2:=List.getElem?_eq_some_iff.mp ea
              have:=nodup_inj R.nd l1.1 l2.1 (l1.2.trans l2.2.symm)
              omega
            · exact R.ap a (hh a z) (List.mem_of_getElem? ea)
        · cases e
mutual
def bel (n : Nat) : PV -> Prop
  | .tup xs=>belL n xs
  | .lst xs=>belL n xs
  | .fro xs=>belL n xs
  | .ref i=>i < n
  | _=>True
def belL (n : Nat) : List PV -> Prop
  | []=>True
  | x :: xs=>bel n x /\ belL n xs
end
mutual
theorem Rep.bel : ∀ {p : PV} {v : V},Rep H ρ p v -> bel ρ.tr.length p
  | .non,_,_=>by simp [Sm.bel]
  | .bl _,_,_=>by simp [Sm.bel]
  | .int _,_,_=>by simp [Sm.bel]
  | .str _,_,_=>by simp [Sm.bel]
  | .tup ps,_,⟨_,_,_,_,_,r⟩=>by rw [Sm.bel]; exact RepL.bel r
  | .lst ps,_,⟨_,_,_,_,_,r⟩=>by rw [Sm.bel]; exact RepL.bel r
  | .fro ps,_,⟨_,_,_,_,_,r⟩=>by rw [Sm.bel]; exact RepL.bel r
  | .ref i,_,⟨_,e,_⟩=>by rw [Sm.bel]; exact (List.getElem?_eq_some_iff.mp e).1
  | .dic,_,_=>by simp [Sm.bel]
theorem RepL.bel : ∀ {ps : List PV} {vs : List V},RepL H ρ ps vs -> belL ρ.tr.length ps
  | [],_,_=>by simp [belL]
  | p :: ps,_,⟨_,_,_,r1,r2⟩=>by rw [belL]; exact ⟨Rep.bel r1,RepL.bel r2⟩
end
mutual
theorem Rep.less (ht : ρ.tr = tr0 ++ rest) (hh : ∀ a,a ∈ hs -> a ∈ ρ.hid) : ∀ {p : PV} {v : V},Sm.bel tr0.length p -> Rep H ρ p v -> Rep H ⟨tr0,hs⟩ p v
  | .non,_,_,r=>r
  | .bl _,_,_,r=>r
  | .int _,_,_,r=>r
  | .str _,_,_,r=>r
  | .tup ps,_,b,⟨a,vs,e,ha,na,r⟩=>⟨a,vs,e,ha,fun z=>na (z.imp (fun z=>by rw [ht]; exact List.mem_append_left _ z) (hh a)),RepL.less ht hh (by rw [Sm.bel] at b; exact b) r⟩
  | .lst ps,_,b,⟨a,vs,e,ha,na,r⟩=>⟨a,vs,e,ha,fun z=>na (z.imp (fun z=>by rw [ht]; exact List.mem_append_left _ z) (hh a)),RepL.less ht hh (by rw [Sm.bel] at b; exact b) r⟩
  | .fro ps,_,b,⟨a,vs,e,ha,na,r⟩=>⟨a,vs,e,ha,fun z=>na (z.imp (fun z=>by rw [ht]; exact List.mem_append_left _ z) (hh a)),RepL.less ht hh (by rw [Sm.bel] at b; exact b) r⟩
  | .ref i,_,b,⟨a,e,e2⟩=>⟨a,by rw [Sm.bel] at b; rw [ht,List.getElem?_append_left b] at e; exact e,e2⟩
  | .dic,_,_,⟨a,e,ha,na⟩=>⟨a,e,ha,fun z=>na (z.imp (fun z=>by rw [ht]; exact List.mem_append_left _ z) (hh a))⟩
theorem RepL.less (ht : ρ.tr = tr0 ++ rest) (hh : ∀ a,a ∈ hs -> a ∈ ρ.hid) : ∀ {ps : List PV} {vs : List V},belL tr0.length ps -> RepL H ρ ps vs -> RepL H ⟨tr0,hs⟩ ps vs
  | [],_,_,r=>r
  | p :: ps,_,b,⟨v,t,e,r1,r2⟩=>by
    rw [belL] at b
    exact ⟨v,t,e,Rep.less ht hh b.1 r1,RepL.less ht hh b.2 r2⟩
end
end
theorem rel_back {H H' : Hp} {ρ ρ' : Tk} {st st' : Store} (R : Rel H ρ st) (x : Ext H ρ H' ρ') (R' : Rel H' ρ' st') (hp : st <+: st') : Ext H ρ H' ρ /\ Rel H' ρ st:=by
  obtain ⟨rest,ht⟩:=x.pre
  obtain ⟨more,hm⟩:=hp
  refine ⟨⟨List.prefix_refl _,fun _ h=>h,fun _ h=>.inl h,x.keep,fun _ h=>.inl h,x.old⟩,R.len,R.nd,fun a ha=>let ⟨o,e⟩:=R.hd a ha; x.old a o e,R.ap,fun i a c h1 h2=>?_⟩
  have hi : i < st.length:=(List.getElem?_eq_some_iff.mp h2).1
  have q:=R'.cell i a c (by rw [<- ht,List.getElem?_append_left (List.getElem?_eq_some_iff.mp h1).1]; exact h1) (by rw [<- hm,List.getElem?_append_left hi]; exact h2)
  have q0:=R.cell i a c h1 h2
  cases c with
  | lst ps=>
    obtain ⟨vs,e1,e2⟩:=q
    obtain ⟨us,_,f2⟩:=q0
    exact ⟨vs,e1,RepL.less (ρ:=ρ') (tr0:=ρ.tr) (hs:=ρ.hid) ht.symm x.hidM f2.bel e2⟩
  | dic ps=>
    obtain ⟨vs,e1,e2⟩:=q
    obtain ⟨us,_,f2⟩:=q0
    exact ⟨vs,e1,e2.1,RepL.less (ρ:=ρ') (tr0:=ρ.tr) (hs:=ρ.hid) ht.symm x.hidM f2.2.bel e2.2⟩
  | dtp ps=>
    obtain ⟨vs,e1,e2⟩:=q
    obtain ⟨us,_,f2⟩:=q0
    exact ⟨vs,e1,e2.1,RepL.less (ρ:=ρ') (tr0:=ρ.tr) (hs:=ρ.hid) ht.symm x.hidM f2.2.bel e2.2⟩
abbrev FN:=List PV -> Store -> Res PV
open Classical in
def fin (st : Store) (v : PV) (st' : Store) : Res PV:=if st <+: st' then okO st (fz st.length st' 16 v) else .ok v st'
open Classical in
def finX (st : Store) (x : Exc) (st' : Store) : Res PV:=if st <+: st' then (match x.fs with
  | none=>.exc x st
  | some (n,p)=>match fz st.length st' 16 p with
    | some q=>.exc ⟨x.cls,some (n,q)⟩ st
    | none=>.stuck) else .exc x st'
def callF (body : MS) (nl : Nat) : FN:=fun ps st=>match body (ps.map some ++ List.replicate (nl - ps.length) none) st with
  | .rt v st'=>fin st v st'
  | .nx _ st'=>fin st .non st'
  | .exc x st'=>finX st x st'
  | _=>.stuck
theorem fin_acc {mg : Str -> Option Value} {E : XK} {H : Hp} {ρ : Tk} {st st' : Store} {Q : VK} {p : PV} (R : Rel H ρ st) (h : Acc mg E H ρ (QV Q) (fin st p st')) : ∀ v H' ρ',Ext H ρ H' ρ' -> Rel H' ρ' st' -> Rep H' ρ' p v -> Q v H':=fun v H' ρ' x R' r=>by
  unfold fin at h
  by_cases hp : st <+: st'
  · rw [if_pos hp] at h
    cases e : fz st.length st' 16 p with
    | none=>rw [e] at h; exact h.elim
    | some q=>
      rw [e] at h
      obtain ⟨x2,R2⟩:=rel_back R x R' hp
      obtain ⟨rest,ht⟩:=x.pre
      rw [<- R.len] at e
      exact h H' ρ x2 R2 v (fz_rep (tr0:=ρ.tr) (hs:=ρ.hid) R' ht.symm x.hidM 16 r e)
  · rw [if_neg hp] at h
    exact h H' ρ' x R' v r
def spF (mg : Str -> Option Value) (n : Nat) (F : FN) : Sp:=fun vs H Q E=>vs.length = n /\ ∃ ρ st ps,Rel H ρ st /\ RepL H ρ ps vs /\ Acc mg E H ρ (QV Q) (F ps st)
theorem start_env {H : Hp} {ρ : Tk} {N : List Str} {ps : List PV} {vs : List V} (r : RepL H ρ ps vs) : EnvR H ρ (ps.map some ++ List.replicate (N.length - ps.length) none) (L2.start N vs):=by
  have hl:=r.length
  unfold L2.start
  refine ⟨by simp [hl],fun i p e=>?_⟩
  by_cases hi : i < ps.length
  · rw [List.getElem?_append_left (by simpa using hi),List.getElem?_map] at e
    rw [List.getElem?_append_left (by simp; omega),List.getElem?_map]
    cases q : ps[i]? with
    | none=>rw [q] at e; cases e
    | some p'=>
      rw [q] at e
      cases e
      obtain ⟨v,e1,e2⟩:=r.get q
      exact ⟨v,by rw [e1]; rfl,e2⟩
  · rw [List.getElem?_append_right (by simpa using hi),List.getElem?_replicate] at e
    split at e <;> cases e
section
variable {P : Program} {w : World} {K : PySem.W.Frag} {mg : Str -> Option Value} {base : Heap}
theorem fun_ok {x qual : Str} {st : Stmt} {f : Addr} {fd : FuncData} {N ps : List Str} {k : Nat} {m : MS} (F : Fun K x qual st f fd) (S : FnScope N ps (defScope st))
    (hb : ∀ (cdv : Value) (A : Around) (outer : List PySem.Env) (s : Shared) (H : Hp) (E : XK),Room k (A.deeper (PyProof.Rows.envOfC qual (defScope st) s.heap.objs.size f cdv)) -> SimB (cxD P w K mg base N qual (defScope st) f cdv A outer s H E) E (defBody st) m) :
    FnOk P w K mg base (CXD P w) (k + 1) f fd ps (spF mg ps.length (callF m N.length)):=by
  refine Fun.okD F S (fun vs H Q E h=>h.1) fun cdv A outer s H vs Q E hr hsp=>⟨_,pss_w,?_⟩
  obtain ⟨hl,ρ,st0,pvs,R,rl,hA⟩:=hsp
  refine (hb cdv A outer s H E hr).run _ (L2.start N vs) H ρ st0 _ R (start_env rl) ?_
  unfold callF at hA
  cases rr : m (pvs.map some ++ List.replicate (N.length - pvs.length) none) st0 with
  | rt v st1=>rw [rr] at hA; exact fin_acc R hA
  | nx Γ st1=>rw [rr] at hA; exact fun σ' H' ρ' x' R' G'=>fin_acc R hA .non H' ρ' x' R' rfl
  | bk Γ st1=>rw [rr] at hA; exact hA.elim
  | ct Γ st1=>rw [rr] at hA; exact hA.elim
  | stuck=>rw [rr] at hA; exact hA.elim
  | exc y st1=>
    rw [rr] at hA
    have hA : Acc mg E H ρ (QV Q) (finX st0 y st1):=hA
    intro C dv H' ρ' hm x' R' hf
    unfold finX at hA
    by_cases hp : st0 <+: st1
    · rw [if_pos hp] at hA
      obtain ⟨x2,R2⟩:=rel_back R x' R' hp
      obtain ⟨cls,fs⟩:=y
      cases fs with
      | none=>exact hA C dv H' ρ hm x2 R2 hf
      | some np=>
        obtain ⟨nm,p⟩:=np
        simp only at hA
        cases e : fz st0.length st1 16 p with
        | none=>rw [e] at hA; exact hA.elim
        | some q=>
          rw [e] at hA
          obtain ⟨rest,ht⟩:=x'.pre
          rw [<- R.len] at e
          obtain ⟨dx,v,e1,e2,e3,e4⟩:=hf
          refine hA C dv H' ρ hm x2 R2 ⟨dx,v,e1,e2,fun z=>e3 (z.imp (fun z=>by rw [<- ht]; exact List.mem_append_left _ z) (x'.hidM dx)),fz_rep (tr0:=ρ.tr) (hs:=ρ.hid) R' ht.symm x'.hidM 16 e4 e⟩
    · rw [if_neg hp] at hA
      exact hA C dv H' ρ' hm x' R' hf
end
theorem fun_ok2 {P : Program} {w : World} {K : PySem.W.Frag} {mg : Str -> Option Value} {base : Heap} {x qual : Str} {st : Stmt} {f : Addr} {fd : FuncData} {N ps : List Str} {k n nl : Nat} {m : MS} {FF : FN} (F : Fun K x qual st f fd) (S : FnScope N ps (defScope st)) (hn : ps.length = n) (hnl : N.length = nl) (hF : FF = callF m nl)
    (hb : ∀ (cdv : Value) (A : Around) (outer : List PySem.Env) (s : Shared) (H : Hp) (E : XK),Room k (A.deeper (PyProof.Rows.envOfC qual (defScope st) s.heap.objs.size f cdv)) -> SimB (cxD P w K mg base N qual (defScope st) f cdv A outer s H E) E (defBody st) m) :
    FnOk P w K mg base (CXD P w) (k + 1) f fd ps (spF mg n FF):=by
  subst hn; subst hnl; subst hF
  exact fun_ok F S hb
structure DefS (P : Program) (w : World) (K : PySem.W.Frag) (mg : Str -> Option Value) (base : Heap) (k : Nat) (x : Str) (n : Nat) (F : FN) : Prop where
  ex : ∃ (f : Addr) (fd : FuncData) (ps : List Str),FnOk P w K mg base (CXD P w) k f fd ps (spF mg n F) /\ mg x = some (.ref f) /\ PySem.W.keepIn K (.ref f) = true /\ Binds K fd ps [] /\ ps.length = n
def mCallF (n : Nat) (F : FN) (mr : Gam -> Store -> Res (List PV)) : ME:=fun Γ st=>(mr Γ st).bind fun ps st1=>if ps.length = n then F ps st1 else .stuck
section
variable {X : Cx} {E : XK} {k n : Nat} {x : Str} {F : FN} {p pos : Pos} {e : Expr} {es : List Expr} {mr : Gam -> Store -> Res (List PV)}
theorem se_call (D : DefS X.prog X.w X.K X.mg X.base k x n F) (hr : Room k X.A) (hx : Passes (CXD X.prog X.w) X E) (hg : Gl X x) (ha : SimA X E (e :: es) mr) (hdb : (x == ("__debug__" : Str)) = false:=by decide)
    (he : starEach (e :: es) X.env = (false,eval e X.env) :: starEach es X.env:=by rfl) (hpl : (backTo pos (starEach es X.env)).any (·.1) = false:=by rfl) : SimE X E (.Call (.Name x p) (e :: es) [] pos) (mCallF n F mr):=by
  obtain ⟨f,fd,ps,hF,hm,hk,hb,hl⟩:=D.ex
  exact ⟨fun Γ σ H ρ st Q R G h=>WE.of (pe_call hF hr hg hm hk hb .nil hx pa_w hdb he hpl) (ha.use R G h.bind fun qs st1 H1 ρ1 vs x1 R1 G1 r1 h1=>by
    by_cases hq : qs.length = n
    · rw [if_pos hq] at h1
      show spF X.mg n F (vs ++ []) H1 Q E
      rw [List.append_nil]
      exact ⟨by rw [<- r1.length]; exact hq,ρ1,st1,qs,R1,r1,h1⟩
    · rw [if_neg hq] at h1; exact h1.elim)⟩
end
end Sm
namespace Sm
open PySem PySem.Spec L2
@[simp] theorem bind_ok {α β : Type} (a : α) (st : Store) (f : α -> Store -> Res β) : (Res.ok a st).bind f = f a st:=rfl
@[simp] theorem bind_stuck {α β : Type} (f : α -> Store -> Res β) : (Res.stuck : Res α).bind f = .stuck:=rfl
@[simp] theorem bind_exc {α β : Type} (x : Exc) (st : Store) (f : α -> Store -> Res β) : (Res.exc x st : Res α).bind f = .exc x st:=rfl
@[simp] theorem sbind_ok {α : Type} (a : α) (st : Store) (f : α -> Store -> SR) : (Res.ok a st).sbind f = f a st:=rfl
@[simp] theorem sbind_stuck {α : Type} (f : α -> Store -> SR) : (Res.stuck : Res α).sbind f = .stuck:=rfl
@[simp] theorem sbind_exc {α : Type} (x : Exc) (st : Store) (f : α -> Store -> SR) : (Res.exc x st : Res α).sbind f = .exc x st:=rfl
@[simp] theorem mVar_eq (i : Nat) (Γ : Gam) (st : Store) : mVar i Γ st = (match Γ[i]? with | some (some p)=>.ok p st | _=>.stuck):=rfl
@[simp] theorem mC_eq (p : PV) (Γ : Gam) (st : Store) : mC p Γ st = .ok p st:=rfl
@[simp] theorem mOp_eq (o : OP) (a b : ME) (Γ : Gam) (st : Store) : mOp o a b Γ st = (a Γ st).bind fun x st1=>(b Γ st1).bind fun y st2=>o st2 x y:=rfl
@[simp] theorem asB_bl (b : Bool) (st : Store) : asB (.bl b) st = .ok b st:=rfl
@[simp] theorem toB_eq (m : ME) (Γ : Gam) (st : Store) : toB m Γ st = (m Γ st).bind asB:=rfl
def selB {α : Type} (x : PV) (A B : Res α) : Res α:=match x with
  | .bl true=>A
  | .bl false=>B
  | _=>.stuck
@[simp] theorem selB_bl {α : Type} (b : Bool) (A B : Res α) : selB (.bl b) A B = if b = true then A else B:=by cases b <;> rfl
@[simp] theorem mChain_eq (o o' : OP) (a b c : ME) (Γ : Gam) (st : Store) : mChain o o' a b c Γ st = (a Γ st).bind fun x st1=>(b Γ st1).bind fun y st2=>(o st2 x y).bind fun k st3=>selB k ((c Γ st3).bind fun z st4=>o' st4 y z) (.ok (.bl false) st3):=by
  unfold mChain
  refine congrArg _ (funext fun x=>funext fun st1=>congrArg _ (funext fun y=>funext fun st2=>congrArg _ (funext fun k=>funext fun st3=>?_)))
  cases k with
  | bl b=>cases b <;> rfl
  | _=>rfl
@[simp] theorem mAnd_eq (a b : ME) (Γ : Gam) (st : Store) : mAnd a b Γ st = (a Γ st).bind fun x st1=>selB x (b Γ st1) (.ok (.bl false) st1):=by
  unfold mAnd
  refine congrArg _ (funext fun x=>funext fun st1=>?_)
  cases x with
  | bl b=>cases b <;> rfl
  | _=>rfl
@[simp] theorem mOr_eq (a b : ME) (Γ : Gam) (st : Store) : mOr a b Γ st = (a Γ st).bind fun x st1=>selB x (.ok (.bl true) st1) (b Γ st1):=by
  unfold mOr
  refine congrArg _ (funext fun x=>funext fun st1=>?_)
  cases x with
  | bl b=>cases b <;> rfl
  | _=>rfl
@[simp] theorem mNot_eq (a : ME) (Γ : Gam) (st : Store) : mNot a Γ st = (a Γ st).bind fun x st1=>(match x with | .bl k=>.ok (.bl (!k)) st1 | _=>.stuck):=rfl
@[simp] theorem mNeg_eq (a : ME) (Γ : Gam) (st : Store) : mNeg a Γ st = (a Γ st).bind fun x st1=>(match x with | .int k=>.ok (.int (-k)) st1 | _=>.stuck):=rfl
@[simp] theorem tAndM_eq (a b : MT) (Γ : Gam) (st : Store) : tAndM a b Γ st = (a Γ st).bind fun k st1=>if k = true then b Γ st1 else .ok false st1:=rfl
@[simp] theorem tOrM_eq (a b : MT) (Γ : Gam) (st : Store) : tOrM a b Γ st = (a Γ st).bind fun k st1=>if k = true then .ok true st1 else b Γ st1:=rfl
@[simp] theorem tNotM_eq (a : MT) (Γ : Gam) (st : Store) : tNotM a Γ st = (a Γ st).bind fun k st1=>.ok (!k) st1:=rfl
@[simp] theorem mIf_eq (c : MT) (a b : ME) (Γ : Gam) (st : Store) : mIf c a b Γ st = (c Γ st).bind fun k st1=>if k = true then a Γ st1 else b Γ st1:=rfl
@[simp] theorem mNil_eq (Γ : Gam) (st : Store) : mNil Γ st = .ok [] st:=rfl
@[simp] theorem mCons_eq (m : ME) (mr : ML) (Γ : Gam) (st : Store) : mCons m mr Γ st = (m Γ st).bind fun p st1=>(mr Γ st1).bind fun ps st2=>.ok (p :: ps) st2:=rfl
@[simp] theorem mTup_eq (mr : ML) (Γ : Gam) (st : Store) : mTup mr Γ st = (mr Γ st).bind fun ps st1=>if ps.length <= lim then .ok (.tup ps) st1 else .stuck:=rfl
@[simp] theorem mLst_eq (mr : ML) (Γ : Gam) (st : Store) : mLst mr Γ st = (mr Γ st).bind fun ps st1=>if ps.length <= lim then .ok (.lst ps) st1 else .stuck:=rfl
@[simp] theorem mLstN_eq (mr : ML) (Γ : Gam) (st : Store) : mLstN mr Γ st = (mr Γ st).bind fun ps st1=>if ps.length <= lim then .ok ps st1 else .stuck:=rfl
@[simp] theorem mSl_eq (m : ME) (l h : Gam -> Store -> Res (Option Int)) (Γ : Gam) (st : Store) : mSl m l h Γ st = (m Γ st).bind fun p st1=>(l Γ st1).bind fun lo st2=>(h Γ st2).bind fun hi st3=>oSl st3 p lo hi:=rfl
@[simp] theorem mNoPart_eq (Γ : Gam) (st : Store) : mNoPart Γ st = .ok none st:=rfl
@[simp] theorem mPart_eq (m : ME) (Γ : Gam) (st : Store) : mPart m Γ st = (m Γ st).bind fun p st1=>(match p with | .int i=>.ok (some i) st1 | _=>.stuck):=rfl
@[simp] theorem mCall_eq (o : CF) (mr : ML) (Γ : Gam) (st : Store) : mCall o mr Γ st = (mr Γ st).bind fun ps st1=>o st1 ps:=rfl
@[simp] theorem mIsI_eq (T : String) (m : ME) (Γ : Gam) (st : Store) : mIsI T m Γ st = (m Γ st).bind fun p st1=>.ok (.bl (isI T (dpv st1 p))) st1:=rfl
@[simp] theorem dpv_non (st : Store) : dpv st .non = .non:=rfl
@[simp] theorem dpv_bl (st : Store) (b : Bool) : dpv st (.bl b) = (.bl b):=rfl
@[simp] theorem dpv_int (st : Store) (b : Int) : dpv st (.int b) = (.int b):=rfl
@[simp] theorem dpv_str (st : Store) (b : Str) : dpv st (.str b) = (.str b):=rfl
@[simp] theorem dpv_tup (st : Store) (b : List PV) : dpv st (.tup b) = (.tup b):=rfl
@[simp] theorem dpv_lst (st : Store) (b : List PV) : dpv st (.lst b) = (.lst b):=rfl
@[simp] theorem dpv_fro (st : Store) (b : List PV) : dpv st (.fro b) = (.fro b):=rfl
@[simp] theorem dpv_dc (st : Store) : dpv st .dic = .dic:=rfl
@[simp] theorem dpv_r (st : Store) (i : Nat) : dpv st (.ref i) = (match st[i]? with | some (.dic _)=>.dic | some (.dtp _)=>.dic | _=>.ref i):=rfl
@[simp] theorem mVal_eq (m : ML) (Γ : Gam) (st : Store) : mVal m Γ st = (m Γ st).bind fun ps st1=>.ok (.lst ps) st1:=rfl
@[simp] theorem mTrk_eq (m : ML) (Γ : Gam) (st : Store) : mTrk m Γ st = (m Γ st).bind fun ps st1=>.ok (.ref st1.length) (st1 ++ [.lst ps]):=rfl
@[simp] theorem mCompN_eq (cap : List (Option Nat)) (ga : GA) (mi : MI) (mt : MT) (me : ME) (Γ : Gam) (st : Store) : mCompN cap ga mi mt me Γ st = (mi Γ st).bind fun iw st1=>noX (compG ga mt me iw.2 (capG cap Γ) iw.1 st1):=rfl
@[simp] theorem mTrue_eq (Γ : Gam) (st : Store) : mTrue Γ st = .ok true st:=rfl
@[simp] theorem mCallF_eq (n : Nat) (F : FN) (mr : ML) (Γ : Gam) (st : Store) : mCallF n F mr Γ st = (mr Γ st).bind fun ps st1=>if ps.length = n then F ps st1 else .stuck:=rfl
@[simp] theorem mNext_eq (Γ : Gam) (st : Store) : mNext Γ st = .nx Γ st:=rfl
@[simp] theorem mSeqS_eq (a b : MS) (Γ : Gam) (st : Store) : mSeqS a b Γ st = (match a Γ st with | .nx Γ1 st1=>b Γ1 st1 | r=>r):=rfl
@[simp] theorem mExpr_eq (m : ME) (Γ : Gam) (st : Store) : mExpr m Γ st = (m Γ st).sbind fun _ st1=>.nx Γ st1:=rfl
@[simp] theorem mRet_eq (m : ME) (Γ : Gam) (st : Store) : mRet m Γ st = (m Γ st).sbind fun p st1=>.rt p st1:=rfl
@[simp] theorem mRetN_eq (Γ : Gam) (st : Store) : mRetN Γ st = .rt .non st:=rfl
@[simp] theorem mSet_eq (i : Nat) (m : ME) (Γ : Gam) (st : Store) : mSet i m Γ st = (m Γ st).sbind fun p st1=>.nx (Γ.set i (some p)) st1:=rfl
@[simp] theorem mIfS_eq (c : MT) (a b : MS) (Γ : Gam) (st : Store) : mIfS c a b Γ st = (c Γ st).sbind fun k st1=>if k = true then a Γ st1 else b Γ st1:=rfl
@[simp] theorem mFor_eq (ga : GA) (mi : MI) (b : MS) (Γ : Gam) (st : Store) : mFor ga mi b Γ st = (mi Γ st).sbind fun iw st1=>forG ga b iw.2 iw.1 Γ st1:=rfl
@[simp] theorem mSeq_eq (m : ME) (Γ : Gam) (st : Store) : mSeq m Γ st = (m Γ st).bind fun p st1=>(match srcOf st1 p with | some (xs,w)=>if xs.length <= lim then .ok (xs,w) st1 else .stuck | none=>.stuck):=rfl
@[simp] theorem mRange1_eq (mr : ML) (Γ : Gam) (st : Store) : mRange1 mr Γ st = (mr Γ st).bind fun ps st1=>(match ps with | [.int j]=>if -(lim : Int) <= j /\ j <= lim then .ok (rangeI 0 j.toNat,[]) st1 else .stuck | _=>.stuck):=rfl
@[simp] theorem mRange2_eq (mr : ML) (Γ : Gam) (st : Store) : mRange2 mr Γ st = (mr Γ st).bind fun ps st1=>(match ps with | [.int i,.int j]=>if -(lim : Int) <= i /\ i <= lim /\ -(lim : Int) <= j /\ j <= lim then .ok (rangeI i (j - i).toNat,[]) st1 else .stuck | _=>.stuck):=rfl
@[simp] theorem mZip_eq (mr : ML) (Γ : Gam) (st : Store) : mZip mr Γ st = (mr Γ st).bind fun ps st1=>(match ps with | [p,q]=>(match srcOf st1 p,srcOf st1 q with | some (xs,w),some (ys,w')=>if xs.length <= lim then .ok (zipT xs ys,w ++ w') st1 else .stuck | _,_=>.stuck) | _=>.stuck):=rfl
@[simp] theorem mEnum_eq (mr : ML) (Γ : Gam) (st : Store) : mEnum mr Γ st = (mr Γ st).bind fun ps st1=>(match ps with | [p]=>(match srcOf st1 p with | some (xs,w)=>if xs.length <= lim then .ok (enumT 0 xs,w) st1 else .stuck | none=>.stuck) | _=>.stuck):=rfl
@[simp] theorem mBM_eq (f : MF) (mo : ME) (mr : ML) (Γ : Gam) (st : Store) : mBM f mo mr Γ st = (mo Γ st).bind fun p st1=>(match listOf st1 p with | some _=>(mr Γ st1).bind fun ps st2=>f st2 p ps | none=>.stuck):=rfl
@[simp] theorem mAsg_eq (ga : GA) (m : ME) (Γ : Gam) (st : Store) : mAsg ga m Γ st = (m Γ st).sbind fun p st1=>(match ga p Γ with | some Γ1=>.nx Γ1 st1 | none=>.stuck):=rfl
@[simp] theorem mSetIx_eq (mo mi m : ME) (Γ : Gam) (st : Store) : mSetIx mo mi m Γ st = (m Γ st).sbind fun p st1=>(mo Γ st1).sbind fun o st2=>(mi Γ st2).sbind fun i st3=>(match setIx st3 o i p with | some st4=>.nx Γ st4 | none=>.stuck):=rfl
@[simp] theorem mRaise_eq (x : Str) (m : ME) (Γ : Gam) (st : Store) : mRaise x m Γ st = (m Γ st).sbind fun _ st1=>.exc ⟨x,none⟩ st1:=rfl
@[simp] theorem gaName_eq (i : Nat) (p : PV) (Γ : Gam) : gaName i p Γ = some (Γ.set i (some p)):=rfl
@[simp] theorem gaNil_eq (Γ : Gam) : gaNil [] Γ = some Γ:=rfl
@[simp] theorem gaCons_eq (g : GA) (gs : GAs) (p : PV) (r : List PV) (Γ : Gam) : gaCons g gs (p :: r) Γ = (g p Γ).bind (gs r):=rfl
@[simp] theorem gaTup_eq (gs : GAs) (ps : List PV) (Γ : Gam) : gaTup gs (.tup ps) Γ = gs ps Γ:=rfl
@[simp] theorem noX_ok {α : Type} (a : α) (st : Store) : noX (Res.ok a st) = .ok a st:=rfl
@[simp] theorem noX_stuck {α : Type} : noX (Res.stuck : Res α) = .stuck:=rfl
@[simp] theorem okO_some {α : Type} (st : Store) (a : α) : okO st (some a) = .ok a st:=rfl
@[simp] theorem okO_none {α : Type} (st : Store) : okO st (none : Option α) = .stuck:=rfl
@[simp] theorem oI_eq (g : Int -> Int -> PV) (st : Store) (a b : Int) : oI g st (.int a) (.int b) = .ok (g a b) st:=rfl
@[simp] theorem oAdd_int (st : Store) (a b : Int) : oAdd st (.int a) (.int b) = .ok (.int (a + b)) st:=rfl
@[simp] theorem oAdd_tup (st : Store) (a b : List PV) : oAdd st (.tup a) (.tup b) = if a.length + b.length <= lim then .ok (.tup (a ++ b)) st else .stuck:=rfl
@[simp] theorem oMul_int (st : Store) (a b : Int) : oMul st (.int a) (.int b) = if (-(2 ^ 64) < a /\ a < 2 ^ 64) \/ (-(2 ^ 64) < b /\ b < 2 ^ 64) then .ok (.int (a * b)) st else .stuck:=rfl
@[simp] theorem oMul_tup (st : Store) (xs : List PV) (b : Int) : oMul st (.tup xs) (.int b) = if xs ≠ [] /\ 1 <= b /\ xs.length * b.toNat <= 4096 then .ok (.tup (List.replicate b.toNat xs).flatten) st else .stuck:=rfl
@[simp] theorem oMod_int (st : Store) (a b : Int) : oMod st (.int a) (.int b) = if 0 < b then .ok (.int (a % b)) st else .stuck:=rfl
@[simp] theorem oDiv_int (st : Store) (a b : Int) : oDiv st (.int a) (.int b) = if 0 < b /\ b < 1073741824 then .ok (.int (a / b)) st else .stuck:=rfl
@[simp] theorem oPow_int (st : Store) (a b : Int) : oPow st (.int a) (.int b) = if 0 <= b /\ b <= 1000000 /\ a.natAbs < 2 ^ 64 then .ok (.int (a ^ b.toNat)) st else .stuck:=rfl
@[simp] theorem oLt_int (st : Store) (a b : Int) : oLt st (.int a) (.int b) = .ok (.bl (decide (a < b))) st:=rfl
@[simp] theorem oEq_int (st : Store) (a b : Int) : oEq st (.int a) (.int b) = .ok (.bl (a == b)) st:=rfl
@[simp] theorem oNe_int (st : Store) (a b : Int) : oNe st (.int a) (.int b) = .ok (.bl (!(a == b))) st:=rfl
@[simp] theorem oEq_bl (st : Store) (a b : Bool) : oEq st (.bl a) (.bl b) = .ok (.bl (a == b)) st:=rfl
@[simp] theorem oNe_bl (st : Store) (a b : Bool) : oNe st (.bl a) (.bl b) = .ok (.bl (!(a == b))) st:=rfl
@[simp] theorem oEq_str (st : Store) (a b : Str) : oEq st (.str a) (.str b) = .ok (.bl (a == b)) st:=rfl
@[simp] theorem oNe_str (st : Store) (a b : Str) : oNe st (.str a) (.str b) = .ok (.bl (!(a == b))) st:=rfl
@[simp] theorem oIs_non (st : Store) (p : PV) : oIs st p .non = .ok (.bl (isNon p)) st:=rfl
@[simp] theorem oIs_bl (st : Store) (a b : Bool) : oIs st (.bl a) (.bl b) = .ok (.bl (a == b)) st:=rfl
@[simp] theorem oIsNot_non (st : Store) (p : PV) : oIsNot st p .non = .ok (.bl (!isNon p)) st:=rfl
@[simp] theorem oIsNot_bl (st : Store) (a b : Bool) : oIsNot st (.bl a) (.bl b) = .ok (.bl (a != b)) st:=rfl
@[simp] theorem lstOf_lst (st : Store) (xs : List PV) : lstOf st (.lst xs) = some xs:=rfl
@[simp] theorem listOf_lst (st : Store) (xs : List PV) : listOf st (.lst xs) = some xs:=rfl
@[simp] theorem listOf_fro (st : Store) (xs : List PV) : listOf st (.fro xs) = some xs:=rfl
@[simp] theorem seqOf_lst (st : Store) (xs : List PV) : seqOf st (.lst xs) = some xs:=rfl
@[simp] theorem seqOf_fro (st : Store) (xs : List PV) : seqOf st (.fro xs) = some xs:=rfl
@[simp] theorem seqOf_tup (st : Store) (xs : List PV) : seqOf st (.tup xs) = some xs:=rfl
@[simp] theorem srcOf_lst (st : Store) (xs : List PV) : srcOf st (.lst xs) = some (xs,[]):=rfl
@[simp] theorem srcOf_fro (st : Store) (xs : List PV) : srcOf st (.fro xs) = some (xs,[]):=rfl
@[simp] theorem srcOf_tup (st : Store) (xs : List PV) : srcOf st (.tup xs) = some (xs,[]):=rfl
@[simp] theorem oIx_tup (st : Store) (xs : List PV) (i : Int) : oIx st (.tup xs) (.int i) = okO st (atI xs i):=rfl
@[simp] theorem oIx_lst (st : Store) (xs : List PV) (i : Int) : oIx st (.lst xs) (.int i) = okO st (atI xs i):=rfl
@[simp] theorem oIx_fro (st : Store) (xs : List PV) (i : Int) : oIx st (.fro xs) (.int i) = okO st (atI xs i):=rfl
@[simp] theorem oSl_tup (st : Store) (xs : List PV) (l h : Option Int) : oSl st (.tup xs) l h = .ok (.tup (cut xs l h)) st:=rfl
@[simp] theorem oSl_lst (st : Store) (xs : List PV) (l h : Option Int) : oSl st (.lst xs) l h = .ok (.lst (cut xs l h)) st:=rfl
@[simp] theorem oSl_fro (st : Store) (xs : List PV) (l h : Option Int) : oSl st (.fro xs) l h = .ok (.lst (cut xs l h)) st:=rfl
@[simp] theorem cLen_tup (st : Store) (xs : List PV) : cLen st [.tup xs] = .ok (.int xs.length) st:=rfl
@[simp] theorem cLen_lst (st : Store) (xs : List PV) : cLen st [.lst xs] = .ok (.int xs.length) st:=rfl
@[simp] theorem cLen_fro (st : Store) (xs : List PV) : cLen st [.fro xs] = .ok (.int xs.length) st:=rfl
@[simp] theorem cList_tup (st : Store) (xs : List PV) : cList st [.tup xs] = .ok (.lst xs) st:=rfl
@[simp] theorem cList_lst (st : Store) (xs : List PV) : cList st [.lst xs] = .ok (.lst xs) st:=rfl
@[simp] theorem cList_fro (st : Store) (xs : List PV) : cList st [.fro xs] = .ok (.lst xs) st:=rfl
@[simp] theorem cTuple_tup (st : Store) (xs : List PV) : cTuple st [.tup xs] = .ok (.tup xs) st:=rfl
@[simp] theorem cTuple_lst (st : Store) (xs : List PV) : cTuple st [.lst xs] = .ok (.tup xs) st:=rfl
@[simp] theorem cBls_lst (g : List Bool -> PV) (st : Store) (bs : List Bool) : cBls g st [.lst (bs.map .bl)] = .ok (g bs) st:=by
  simp only [cBls,seqOf_lst,Option.bind_some,bls_map]
@[simp] theorem cInts_lst (g : List Int -> Option PV) (st : Store) (ns : List Int) : cInts g st [.lst (ns.map .int)] = okO st (g ns):=by
  simp only [cInts,seqOf_lst,Option.bind_some,ints_map]
@[simp] theorem cInts_tup (g : List Int -> Option PV) (st : Store) (ns : List Int) : cInts g st [.tup (ns.map .int)] = okO st (g ns):=by
  simp only [cInts,seqOf_tup,Option.bind_some,ints_map]
@[simp] theorem cMax_int (st : Store) (a b : Int) : cMax st [.int a,.int b] = .ok (.int (if b > a then b else a)) st:=rfl
@[simp] theorem cMin_int (st : Store) (a b : Int) : cMin st [.int a,.int b] = .ok (.int (if b < a then b else a)) st:=rfl
@[simp] theorem wOk_nil' (st : Store) : wOk [] st = True:=by simp [wOk]
@[simp] theorem fin_bl (st : Store) (b : Bool) : fin st (.bl b) st = .ok (.bl b) st:=by simp [fin,fz]
@[simp] theorem fin_int (st : Store) (b : Int) : fin st (.int b) st = .ok (.int b) st:=by simp [fin,fz]
@[simp] theorem fin_non (st : Store) : fin st .non st = .ok .non st:=by simp [fin,fz]
@[simp] theorem fin_str (st : Store) (b : Str) : fin st (.str b) st = .ok (.str b) st:=by simp [fin,fz]
theorem fin_good {st : Store} {v : PV} (g : good 12 v = true) : fin st v st = .ok v st:=by
  simp only [fin,List.prefix_rfl,if_true,fz_good g (by decide : 12 < 16),okO_some]
theorem fin_goodA {st more : Store} {v : PV} (g : good 12 v = true) : fin st v (st ++ more) = .ok v st:=by
  simp only [fin,List.prefix_append,if_true,fz_good g (by decide : 12 < 16),okO_some]
theorem lim_eq : lim = 1000000:=rfl
theorem compG_on {α : Type} (g f : α -> PV) {ga : GA} {me : ME} {w : Wt} {Γ0 : Gam} {st : Store} (hw : wOk w st) {ys : List α} (h : ∀ y ∈ ys,∃ Γ1,ga (g y) Γ0 = some Γ1 /\ me Γ1 st = .ok (f y) st) : compG ga mTrue me w Γ0 (ys.map g) st = .ok (ys.map f) st:=by
  induction ys with
  | nil=>simp [compG,hw]
  | cons y ys ih=>
    obtain ⟨Γ1,h1,h2⟩:=h y List.mem_cons_self
    have ih:=ih fun z hz=>h z (List.mem_cons_of_mem _ hz)
    rw [List.map_cons,compG,if_pos hw,h1]
    simp [h2,ih]
@[simp] theorem cBls_map {α : Type} (g : List Bool -> PV) (st : Store) (ys : List α) (b : α -> Bool) : cBls g st [.lst (ys.map fun y=>.bl (b y))] = .ok (g (ys.map b)) st:=by
  rw [show (ys.map fun y=>PV.bl (b y)) = (ys.map b).map .bl by rw [List.map_map]; rfl,cBls_lst]
@[simp] theorem cInts_map {α : Type} (g : List Int -> Option PV) (st : Store) (ys : List α) (b : α -> Int) : cInts g st [.lst (ys.map fun y=>.int (b y))] = okO st (g (ys.map b)):=by
  rw [show (ys.map fun y=>PV.int (b y)) = (ys.map b).map .int by rw [List.map_map]; rfl,cInts_lst]
theorem forG_search {α : Type} (g : α -> PV) (J : Gam -> Prop) (Pd : α -> Bool) (v : PV) {ga : GA} {body : MS} {w : Wt} {st : Store} (hw : wOk w st) : ∀ {xs : List α},(∀ x ∈ xs,∀ Γ,J Γ -> ∃ Γ1,ga (g x) Γ = some Γ1 /\ (Pd x = true -> ∃ Γ2,J Γ2 /\ body Γ1 st = .nx Γ2 st) /\ (Pd x = false -> body Γ1 st = .rt v st)) ->
    ∀ Γ,J Γ -> (xs.all Pd = true -> ∃ Γ',J Γ' /\ forG ga body w (xs.map g) Γ st = .nx Γ' st) /\ (xs.all Pd = false -> forG ga body w (xs.map g) Γ st = .rt v st)
  | [],_,Γ,hJ=>⟨fun _=>⟨Γ,hJ,by simp [forG,hw]⟩,fun h=>by simp at h⟩
  | x :: xs,h,Γ,hJ=>by
    obtain ⟨Γ1,h1,h2,h3⟩:=h x List.mem_cons_self Γ hJ
    rw [List.map_cons,forG,if_pos hw,h1]
    cases px : Pd x with
    | false=>
      refine ⟨fun z=>by simp [px] at z,fun _=>?_⟩
      simp only [h3 px]
    | true=>
      obtain ⟨Γ2,j2,e2⟩:=h2 px
      have ih:=forG_search g J Pd v (ga:=ga) (body:=body) hw (xs:=xs) (fun y hy=>h y (List.mem_cons_of_mem _ hy)) Γ2 j2
      simp only [e2,List.all_cons,px,Bool.true_and]
      exact ih
theorem forG_inv {α : Type} (g : α -> PV) {xs : List α} (I : Nat -> Gam -> Store -> Prop) {ga : GA} {body : MS} {w : Wt} (hw : ∀ i Γ st,I i Γ st -> wOk w st)
    (h : ∀ (i : Nat) x Γ st,xs[i]? = some x -> I i Γ st -> ∃ Γ1,ga (g x) Γ = some Γ1 /\ ∃ Γ2 st2,body Γ1 st = .nx Γ2 st2 /\ I (i + 1) Γ2 st2) {Γ : Gam} {st : Store} (h0 : I 0 Γ st) : ∃ Γ' st',forG ga body w (xs.map g) Γ st = .nx Γ' st' /\ I xs.length Γ' st':=by
  induction xs generalizing I Γ st with
  | nil=>exact ⟨Γ,st,by simp [forG,hw 0 Γ st h0],h0⟩
  | cons x xs ih=>
    obtain ⟨Γ1,h1,Γ2,st2,e2,i2⟩:=h 0 x Γ st rfl h0
    obtain ⟨Γ',st',e3,i3⟩:=ih (fun i=>I (i + 1)) (fun i Γ st z=>hw (i + 1) Γ st z) (fun i y Γ st hy z=>h (i + 1) y Γ st (by simpa using hy) z) i2
    refine ⟨Γ',st',?_,i3⟩
    rw [List.map_cons,forG,if_pos (hw 0 Γ st h0),h1]
    simp only [e2]
    exact e3
theorem forG_invL {α : Type} (g : α -> PV) {xs : List α} (I : List α -> Gam -> Store -> Prop) {ga : GA} {body : MS} {w : Wt} (hw : ∀ pre Γ st,I pre Γ st -> wOk w st)
    (h : ∀ pre x post Γ st,xs = pre ++ x :: post -> I pre Γ st -> ∃ Γ1,ga (g x) Γ = some Γ1 /\ ∃ Γ2 st2,body Γ1 st = .nx Γ2 st2 /\ I (pre ++ [x]) Γ2 st2) {Γ : Gam} {st : Store} (h0 : I [] Γ st) : ∃ Γ' st',forG ga body w (xs.map g) Γ st = .nx Γ' st' /\ I xs Γ' st':=by
  have key : ∀ (post pre : List α) (Γ : Gam) (st : Store),xs = pre ++ post -> I pre Γ st -> ∃ Γ' st',forG ga body w (post.map g) Γ st = .nx Γ' st' /\ I xs Γ' st':=by
    intro post
    induction post with
    | nil=>intro pre Γ st e i; exact ⟨Γ,st,by simp [forG,hw pre Γ st i],by rw [e,List.append_nil]; exact i⟩
    | cons x post ih=>
      intro pre Γ st e i
      obtain ⟨Γ1,h1,Γ2,st2,e2,i2⟩:=h pre x post Γ st e i
      obtain ⟨Γ',st',e3,i3⟩:=ih (pre ++ [x]) Γ2 st2 (by rw [e]; simp) i2
      refine ⟨Γ',st',?_,i3⟩
      rw [List.map_cons,forG,if_pos (hw pre Γ st i),h1]
      simp only [e2]
      exact e3
  exact key xs [] Γ st rfl h0
theorem atI_map {α : Type} (f : α -> PV) (xs : List α) (i : Int) : atI (xs.map f) i = (atI xs i).map f:=by
  unfold atI
  rw [List.length_map]
  cases ixN xs.length i with
  | none=>rfl
  | some j=>simp [List.getElem?_map]
theorem atI_get {α : Type} {xs : List α} {i : Nat} {x : α} (h : xs[i]? = some x) : atI xs (i : Int) = some x:=by
  have hl:=(List.getElem?_eq_some_iff.mp h).1
  unfold atI ixN
  rw [if_pos (by omega),if_pos (by omega)]
  simpa using h
theorem cut_map {α : Type} (f : α -> PV) (xs : List α) (l h : Option Int) : cut (xs.map f) l h = (cut xs l h).map f:=by
  unfold cut
  rw [List.length_map,<- List.map_drop,<- List.map_take]
theorem rangeI0 (n : Nat) : rangeI 0 n = (List.range n).map fun (k : Nat)=>PV.int (k : Int):=by
  unfold rangeI
  refine List.map_congr_left fun k _=>?_
  rw [Int.zero_add]
@[simp] theorem tr_get {α : Type} (st l : List α) (c : α) : (st ++ c :: l)[st.length]? = some c:=by
  rw [List.getElem?_append_right (Nat.le_refl _),Nat.sub_self]; rfl
@[simp] theorem tr_get1 {α : Type} (st l : List α) (c d : α) : (st ++ c :: d :: l)[st.length + 1]? = some d:=by
  rw [List.getElem?_append_right (by omega)]
  rw [show st.length + 1 - st.length = 1 by omega]; rfl
@[simp] theorem tr_set {α : Type} (st l : List α) (c d : α) : (st ++ c :: l).set st.length d = st ++ d :: l:=by
  rw [List.set_append_right _ _ (Nat.le_refl _),Nat.sub_self]; rfl
@[simp] theorem tr_set1 {α : Type} (st l : List α) (c c' d : α) : (st ++ c :: c' :: l).set (st.length + 1) d = st ++ c :: d :: l:=by
  rw [List.set_append_right _ _ (by omega),show st.length + 1 - st.length = 1 by omega]; rfl
@[simp] theorem chg_ref (st : Store) (i : Nat) (g : List PV -> Option (PV × List PV)) : chg st (.ref i) g = (match st[i]? with | some (.lst xs)=>(match g xs with | some (r,ys)=>.ok r (st.set i (.lst ys)) | none=>.stuck) | _=>.stuck):=rfl
@[simp] theorem lstOf_r (st : Store) (i : Nat) : lstOf st (.ref i) = (match st[i]? with | some (.lst xs)=>some xs | _=>none):=rfl
@[simp] theorem listOf_r (st : Store) (i : Nat) : listOf st (.ref i) = (match st[i]? with | some (.lst xs)=>some xs | _=>none):=rfl
@[simp] theorem seqOf_r (st : Store) (i : Nat) : seqOf st (.ref i) = (match st[i]? with | some (.lst xs)=>some xs | _=>none):=rfl
@[simp] theorem srcOf_r (st : Store) (i : Nat) : srcOf st (.ref i) = (match st[i]? with | some (.lst xs)=>some (xs,[(i,.lst xs)]) | _=>none):=rfl
@[simp] theorem mtAppend_eq (st : Store) (p y : PV) : mtAppend st p [y] = chg st p fun xs=>if xs.length < lim then some (.non,xs ++ [y]) else none:=rfl
@[simp] theorem cTuple_r (st : Store) (i : Nat) : cTuple st [.ref i] = (match st[i]? with | some (.lst xs)=>.ok (.tup xs) st | _=>.stuck):=by
  unfold cTuple; simp only [seqOf_r]
  cases st[i]? with
  | none=>rfl
  | some c=>cases c <;> rfl
@[simp] theorem cList_r (st : Store) (i : Nat) : cList st [.ref i] = (match st[i]? with | some (.lst xs)=>.ok (.lst xs) st | _=>.stuck):=by
  unfold cList; simp only [seqOf_r]
  cases st[i]? with
  | none=>rfl
  | some c=>cases c <;> rfl
@[simp] theorem cLen_r (st : Store) (i : Nat) : cLen st [.ref i] = (match st[i]? with | some (.lst xs)=>.ok (.int xs.length) st | _=>.stuck):=by
  unfold cLen; simp only [seqOf_r]
  cases st[i]? with
  | none=>rfl
  | some c=>cases c <;> rfl
@[simp] theorem oIx_r (st : Store) (i : Nat) (j : Int) : oIx st (.ref i) (.int j) = (match st[i]? with | some (.lst xs)=>okO st (atI xs j) | _=>.stuck):=by
  unfold oIx; simp only [seqOf_r]
  cases st[i]? with
  | none=>rfl
  | some c=>cases c <;> rfl
@[simp] theorem setIx_r (st : Store) (k : Nat) (j : Int) (p : PV) : setIx st (.ref k) (.int j) p = (match st[k]? with | some (.lst xs)=>(ixN xs.length j).map fun n=>st.set k (.lst (xs.set n p)) | _=>none):=rfl
theorem cut_front {α : Type} (xs : List α) (k : Nat) : cut xs none (some (k : Int)) = xs.take k:=by
  unfold cut
  rw [HT.sIx_none,HT.sIx_nat,List.drop_zero,Nat.sub_zero]
  rcases Nat.le_total k xs.length with h | h
  · rw [Nat.min_eq_left h]
  · rw [Nat.min_eq_right h,List.take_length,List.take_of_length_le h]
theorem cut_back {α : Type} (xs : List α) (k : Nat) : cut xs (some (k : Int)) none = xs.drop k:=by
  unfold cut
  rw [HT.sIx_none,HT.sIx_nat]
  rcases Nat.le_total k xs.length with h | h
  · rw [Nat.min_eq_left h,List.take_of_length_le (by rw [List.length_drop]; omega)]
  · rw [Nat.min_eq_right h,List.drop_length,List.drop_of_length_le h]; simp
end Sm
namespace Sm
open PySem PySem.Spec L2
theorem getD_some {α : Type} {l : List α} {j : Nat} (h : j < l.length) (d : α) : l[j]? = some (l.getD j d):=by
  rw [List.getD,List.getElem?_eq_getElem h]; rfl
def ListAt (st : Store) (V : PV) (xs : List PV) : Prop:=V = .lst xs \/ V = .fro xs \/ ∃ i,V = .ref i /\ st[i]? = some (.lst xs)
theorem ListAt.ix {st : Store} {V : PV} {xs : List PV} (h : ListAt st V xs) (j : Int) : oIx st V (.int j) = okO st (atI xs j):=by
  rcases h with rfl | rfl | ⟨i,rfl,e⟩
  · rfl
  · rfl
  · rw [oIx_r,e]
theorem compG_inv {α : Type} (g : α -> PV) {xs : List α} (I : Nat -> List PV -> Store -> Prop) {ga : GA} {me : ME} {w : Wt} {Γ0 : Gam} (hw : ∀ i out st,I i out st -> wOk w st)
    (h : ∀ (i : Nat) x out st,xs[i]? = some x -> I i out st -> ∃ Γ1,ga (g x) Γ0 = some Γ1 /\ ∃ v st2,me Γ1 st = .ok v st2 /\ I (i + 1) (out ++ [v]) st2) {st : Store} (h0 : I 0 [] st) : ∃ out st',compG ga mTrue me w Γ0 (xs.map g) st = .ok out st' /\ I xs.length out st':=by
  have key : ∀ (ys : List α) (k : Nat) (pre : List PV) (st : Store),(∀ i,ys[i]? = xs[k + i]?) -> k + ys.length = xs.length -> I k pre st -> ∃ out st',compG ga mTrue me w Γ0 (ys.map g) st = .ok out st' /\ I xs.length (pre ++ out) st':=by
    intro ys
    induction ys with
    | nil=>
      intro k pre st e e2 i
      refine ⟨[],st,by simp [compG,hw k pre st i],?_⟩
      rw [List.append_nil,<- e2]; exact i
    | cons y ys ih=>
      intro k pre st e e2 i
      have e0 : xs[k]? = some y:=by have:=e 0; simpa using this.symm
      obtain ⟨Γ1,h1,v,st2,h2,i2⟩:=h k y pre st e0 i
      obtain ⟨out,st',h3,i3⟩:=ih (k + 1) (pre ++ [v]) st2 (fun i=>by
        have:=e (i + 1)
        rw [List.getElem?_cons_succ] at this
        rw [this]; congr 1; omega) (by rw [<- e2,List.length_cons]; omega) i2
      refine ⟨v :: out,st',?_,by simpa using i3⟩
      rw [List.map_cons,compG,if_pos (hw k pre st i),h1]
      simp [mTrue,h2,h3]
  obtain ⟨out,st',h1,h2⟩:=key xs 0 [] st (fun i=>by simp) (by simp) h0
  exact ⟨out,st',h1,by simpa using h2⟩
@[simp] theorem mListN_eq (ma : ME) (Γ : Gam) (st : Store) : mListN ma Γ st = (ma Γ st).bind fun p st1=>match seqOf st1 p with | some xs=>.ok xs st1 | none=>.stuck:=rfl
@[simp] theorem mAddN_eq (ma mb : ME) (Γ : Gam) (st : Store) : mAddN ma mb Γ st = (ma Γ st).bind fun x st1=>(mb Γ st1).bind fun y st2=>oAddN st2 x y:=rfl
@[simp] theorem mRepN_eq (ma mb : ME) (Γ : Gam) (st : Store) : mRepN ma mb Γ st = (ma Γ st).bind fun x st1=>(mb Γ st1).bind fun y st2=>oRepN st2 x y:=rfl
theorem ixN_nat {n k : Nat} (h : k < n) : ixN n (k : Int) = some k:=by
  unfold ixN
  rw [if_pos (by omega),if_pos (by omega)]
  simp
theorem peqL_self : ∀ {xs : List PV},(∀ x ∈ xs,peq x x = true) -> peqL xs xs = true
  | [],_=>rfl
  | x :: xs,h=>by
    rw [peqL,h x List.mem_cons_self,peqL_self fun y hy=>h y (List.mem_cons_of_mem _ hy)]; rfl
theorem peq_self : ∀ {n : Nat} {p : PV},good n p = true -> peq p p = true
  | n,.non,_=>rfl
  | n,.bl b,_=>by simp [peq]
  | n,.int b,_=>by simp [peq]
  | n,.str b,_=>by simp [peq]
  | n,.ref _,g=>by cases n <;> simp [good] at g
  | n,.dic,g=>by cases n <;> simp [good] at g
  | 0,.tup _,g=>by simp [good] at g
  | 0,.lst _,g=>by simp [good] at g
  | 0,.fro _,g=>by simp [good] at g
  | n + 1,.tup xs,g=>by
    rw [peq]; refine peqL_self fun x hx=>peq_self (n:=n) ?_
    simp [good] at g; exact g x hx
  | n + 1,.lst xs,g=>by
    rw [peq]; refine peqL_self fun x hx=>peq_self (n:=n) ?_
    simp [good] at g; exact g x hx
  | n + 1,.fro xs,g=>by
    rw [peq]; refine peqL_self fun x hx=>peq_self (n:=n) ?_
    simp [good] at g; exact g x hx
end Sm
namespace Sm
open PySem PySem.Spec L2
section
variable {X : Cx} {E : XK} {a b : Expr} {ma mb : ME} {pos : Pos}
def mRevN (ma mb : ME) : ML:=fun Γ st=>(ma Γ st).bind fun p st1=>(mb Γ st1).bind fun q st2=>match q,listOf st2 p with
  | .int i,some xs=>if i = -1 then .ok xs.reverse st2 else .stuck
  | _,_=>.stuck
@[simp] theorem mRevN_eq (ma mb : ME) (Γ : Gam) (st : Store) : mRevN ma mb Γ st = (ma Γ st).bind fun p st1=>(mb Γ st1).bind fun q st2=>match q,listOf st2 p with
  | .int i,some xs=>if i = -1 then .ok xs.reverse st2 else .stuck
  | _,_=>.stuck:=rfl
def mLRN (ma : ME) : ML:=fun Γ st=>(ma Γ st).bind fun p st1=>match p with
  | .int i=>if 0 <= i /\ i <= 1000000 then .ok ((List.range i.toNat).map fun (k : Nat)=>.int (k : Int)) st1 else .stuck
  | _=>.stuck
@[simp] theorem mLRN_eq (ma : ME) (Γ : Gam) (st : Store) : mLRN ma Γ st = (ma Γ st).bind fun p st1=>match p with
  | .int i=>if 0 <= i /\ i <= 1000000 then .ok ((List.range i.toNat).map fun (k : Nat)=>.int (k : Int)) st1 else .stuck
  | _=>.stuck:=rfl
def mLenSet (ma : ME) : ME:=fun Γ st=>(ma Γ st).bind fun p st1=>match (listOf st1 p).bind intsOf with
  | some ns=>if ns.length <= 4000 then .ok (.int (metN ns).length) st1 else .stuck
  | none=>.stuck
@[simp] theorem mLenSet_eq (ma : ME) (Γ : Gam) (st : Store) : mLenSet ma Γ st = (ma Γ st).bind fun p st1=>match (listOf st1 p).bind intsOf with
  | some ns=>if ns.length <= 4000 then .ok (.int (metN ns).length) st1 else .stuck
  | none=>.stuck:=rfl
end
end Sm
namespace Sm
open PySem PySem.Spec L2
section
variable {P : Program} {w : World} {K : PySem.W.Frag} {mg : Str -> Option Value} {base : Heap}
end
end Sm
namespace Sm
open PySem PySem.Spec PyProof.Rows L2
section
variable {X : Cx} {E : XK} {pos : Pos} {a b : Expr} {ma mb : ME}
def mTR (ma : ME) : ME:=fun Γ st=>(ma Γ st).bind fun p st1=>match p with
  | .int i=>if 0 <= i /\ i <= 1000000 then .ok (.tup ((List.range i.toNat).map fun (k : Nat)=>.int (k : Int))) st1 else .stuck
  | _=>.stuck
@[simp] theorem mTR_eq (ma : ME) (Γ : Gam) (st : Store) : mTR ma Γ st = (ma Γ st).bind fun p st1=>match p with
  | .int i=>if 0 <= i /\ i <= 1000000 then .ok (.tup ((List.range i.toNat).map fun (k : Nat)=>.int (k : Int))) st1 else .stuck
  | _=>.stuck:=rfl
def mDic : ME:=fun _ st=>.ok .dic st
@[simp] theorem mDic_eq (Γ : Gam) (st : Store) : mDic Γ st = .ok .dic st:=rfl
def mRevT (ma mb : ME) : ME:=fun Γ st=>(ma Γ st).bind fun p st1=>(mb Γ st1).bind fun q st2=>match q,p with
  | .int i,.tup xs=>if i = -1 then .ok (.tup xs.reverse) st2 else .stuck
  | _,_=>.stuck
@[simp] theorem mRevT_eq (ma mb : ME) (Γ : Gam) (st : Store) : mRevT ma mb Γ st = (ma Γ st).bind fun p st1=>(mb Γ st1).bind fun q st2=>match q,p with
  | .int i,.tup xs=>if i = -1 then .ok (.tup xs.reverse) st2 else .stuck
  | _,_=>.stuck:=rfl
end
end Sm
namespace Sm
open PySem PySem.Spec L2
def partsV (w : Str) : V:=if w = "make" then .int 3 else if w = "lend" then .int 4 else if w = "use" then .int 3 else .non
structure PartsOk (P : Program) (w : World) (K : PySem.W.Frag) (mg : Str -> Option Value) : Prop where
  ex : ∃ (a : Addr) (o : Obj) (es : Array DictEntry) (ep : Nat),mg "PARTS_OF_DEED" = some (.ref a) /\ K.lookup a = some o /\ o.cls = .type "dict" /\ o.ExactDict /\ o.data = .dict es ep /\ KeysOf (mixKind P w) es /\ (a == sysModules) = false /\ ∀ x,RelV (partsV x) ((findBy (mixKind P w).is es (.inr x)).getD .none)
def mParts (m : ME) : ME:=fun Γ st=>(m Γ st).bind fun p st1=>match p with
  | .str x=>if x = "make" then .ok (.int 3) st1 else if x = "lend" then .ok (.int 4) st1 else if x = "use" then .ok (.int 3) st1 else .ok .non st1
  | _=>.stuck
section
variable {X : Cx} {E : XK} {pos : Pos} {e : Expr} {m : ME}
theorem se_parts {p apos cpos : Pos} (PO : PartsOk X.prog X.w X.K X.mg) (hg : Gl X "PARTS_OF_DEED") (he : SimE X E e m)
    (base : attributeBase (.Name "PARTS_OF_DEED" p) "get" X.env (eval (.Name "PARTS_OF_DEED" p) X.env) = eval (.Name "PARTS_OF_DEED" p) X.env:=by rfl)
    (few : ((backTo cpos (starEach [e] X.env)).all (fun x=>!x.1) && (backToKw cpos (keywordEach [] X.env)).all (fun x=>x.1.isSome)
      && decide (([e] : List Expr).length + ([] : List Keyword).length + (if ([] : List Keyword).isEmpty then 0 else 1) < 30)) = true:=by rfl)
    (line : (apos.endLine == cpos.line) = true:=by rfl) (trees : backTo cpos (starEach [e] X.env) = [(false,eval e X.env)]:=by rfl) :
    SimE X E (.Call (.Attribute (.Name "PARTS_OF_DEED" p) "get" apos) [e] [] cpos) (mParts m):=by
  obtain ⟨a,o,es,ep,pm,pl,pt,pe,pd,pk,ps,pv'⟩:=PO.ex
  refine ⟨fun Γ σ H ρ st Q R G h=>WE.of (pe_ggetT (val:=partsV) hg pm pl pt pe pd pk ps pv' pe_w (by decide) base few line trees) (he.use R G h.bind fun q st1 H1 ρ1 v x1 R1 G1 r1 h1=>?_)⟩
  cases q with
  | str x=>
    cases r1
    have h1 : Acc X.mg E H1 ρ1 (QV Q) (if x = "make" then .ok (.int 3) st1 else if x = "lend" then .ok (.int 4) st1 else if x = "use" then .ok (.int 3) st1 else .ok .non st1):=h1
    by_cases a1 : x = "make"
    · rw [if_pos a1] at h1
      exact ⟨x,rfl,by unfold partsV; rw [if_pos a1]; exact now R1 h1 rfl⟩
    · rw [if_neg a1] at h1
      by_cases a2 : x = "lend"
      · rw [if_pos a2] at h1
        exact ⟨x,rfl,by unfold partsV; rw [if_neg a1,if_pos a2]; exact now R1 h1 rfl⟩
      · rw [if_neg a2] at h1
        by_cases a3 : x = "use"
        · rw [if_pos a3] at h1
          exact ⟨x,rfl,by unfold partsV; rw [if_neg a1,if_neg a2,if_pos a3]; exact now R1 h1 rfl⟩
        · rw [if_neg a3] at h1
          exact ⟨x,rfl,by unfold partsV; rw [if_neg a1,if_neg a2,if_neg a3]; exact now R1 h1 rfl⟩
  | _=>exact h1.elim
end
section
theorem parts_mk {P : Program} {w : World} {K : PySem.W.Frag} {mg : Str -> Option Value} {pd : Addr} {t1 t2 t3 u1 u2 u3 : Tok} {ep : Nat} (hm : mg "PARTS_OF_DEED" = some (.ref pd))
    (lk : K.lookup pd = some ⟨.type "dict",none,.dict #[⟨PyData.keyHash w.params "make",.str "make" t1,.int 3 u1⟩,⟨PyData.keyHash w.params "lend",.str "lend" t2,.int 4 u2⟩,⟨PyData.keyHash w.params "use",.str "use" t3,.int 3 u3⟩] ep,#[]⟩) (hp : (pd == sysModules) = false) : PartsOk P w K mg:=by
  refine ⟨pd,_,_,_,hm,lk,rfl,⟨rfl,rfl,rfl⟩,rfl,fun e he=>?_,hp,fun x=>?_⟩
  · simp only [List.mem_toArray,List.mem_cons,List.not_mem_nil,or_false] at he
    rcases he with rfl | rfl | rfl
    · exact ⟨.inr "make",by simp [mixKind,keyIs,Value.isStrOf],rfl⟩
    · exact ⟨.inr "lend",by simp [mixKind,keyIs,Value.isStrOf],rfl⟩
    · exact ⟨.inr "use",by simp [mixKind,keyIs,Value.isStrOf],rfl⟩
  · unfold partsV
    by_cases e1 : x = "make"
    · rw [if_pos e1]; subst e1
      have : findBy (mixKind P w).is #[⟨PyData.keyHash w.params "make",.str "make" t1,.int 3 u1⟩,⟨PyData.keyHash w.params "lend",.str "lend" t2,.int 4 u2⟩,⟨PyData.keyHash w.params "use",.str "use" t3,.int 3 u3⟩] (.inr "make") = some (.int 3 u1):=by first | rfl | decide +kernel
      rw [this]; exact ⟨_,rfl⟩
    · rw [if_neg e1]
      by_cases e2 : x = "lend"
      · rw [if_pos e2]; subst e2
        have : findBy (mixKind P w).is #[⟨PyData.keyHash w.params "make",.str "make" t1,.int 3 u1⟩,⟨PyData.keyHash w.params "lend",.str "lend" t2,.int 4 u2⟩,⟨PyData.keyHash w.params "use",.str "use" t3,.int 3 u3⟩] (.inr "lend") = some (.int 4 u2):=by first | rfl | decide +kernel
        rw [this]; exact ⟨_,rfl⟩
      · rw [if_neg e2]
        by_cases e3 : x = "use"
        · rw [if_pos e3]; subst e3
          have : findBy (mixKind P w).is #[⟨PyData.keyHash w.params "make",.str "make" t1,.int 3 u1⟩,⟨PyData.keyHash w.params "lend",.str "lend" t2,.int 4 u2⟩,⟨PyData.keyHash w.params "use",.str "use" t3,.int 3 u3⟩] (.inr "use") = some (.int 3 u3):=by first | rfl | decide +kernel
          rw [this]; exact ⟨_,rfl⟩
        · rw [if_neg e3]
          have e1' : ¬ (Str.ofString "make" = x):=fun z=>e1 z.symm
          have e2' : ¬ (Str.ofString "lend" = x):=fun z=>e2 z.symm
          have e3' : ¬ (Str.ofString "use" = x):=fun z=>e3 z.symm
          have : findBy (mixKind P w).is #[⟨PyData.keyHash w.params "make",.str "make" t1,.int 3 u1⟩,⟨PyData.keyHash w.params "lend",.str "lend" t2,.int 4 u2⟩,⟨PyData.keyHash w.params "use",.str "use" t3,.int 3 u3⟩] (.inr x) = none:=by
            simp [findBy,mixKind,keyIs,Value.isStrOf,e1',e2',e3']
          rw [this]; rfl
end
def pick3 (k1 k2 k3 : Str) (p1 p2 p3 : PV) (st4 : Store) : PV -> Res PV
  | .str x=>if x = k1 then .ok p1 st4 else if x = k2 then .ok p2 st4 else if x = k3 then .ok p3 st4 else .stuck
  | _=>.stuck
def mDsp3 (k1 k2 k3 : Str) (m1 m2 m3 mi : ME) : ME:=fun Γ st=>(m1 Γ st).bind fun p1 st1=>(m2 Γ st1).bind fun p2 st2=>(m3 Γ st2).bind fun p3 st3=>(mi Γ st3).bind fun q st4=>pick3 k1 k2 k3 p1 p2 p3 st4 q
section
variable {X : Cx} {E : XK} {pos dpos : Pos} {e1 e2 e3 i : Expr} {m1 m2 m3 mi : ME} {k1 k2 k3 : Str} {j1 j2 j3 : Nat} {q1 q2 q3 : Pos}
end
def mRaiseI (x name : Str) (m : ME) : MS:=fun Γ st=>(m Γ st).sbind fun p st1=>.exc ⟨x,some (name,p)⟩ st1
section
variable {X : Cx} {E : XK} {pos : Pos} {e : Expr} {m : ME}
theorem ss_raiseI {x name : Str} {C W f : Addr} {fd : FuncData} {k : Nat} {ps : List Str} {np cpos : Pos} (hcalm : X.calm = true) (RO : RaiseD X E) (M : XMade X.K C W f) (GI : FnOk X.prog X.w X.K X.mg X.base CX0 k f fd ps (spInit C name)) (hr : Room (k + 1) X.A)
    (hb : Binds X.K fd ps []) (hg : Gl X x) (hm : X.mg x = some (.ref C)) (he : SimE X E e m) (hdb : (x == ("__debug__" : Str)) = false:=by decide) (hst : starEach [e] X.env = [(false,eval e X.env)]:=by rfl) :
    SimS X E (.Raise (some (.Call (.Name x np) [e] [] cpos)) none pos) (mRaiseI x name m):=
  ⟨fun Γ σ H ρ st D R G h=>WS.of (ps_raiseI hcalm RO M GI hr hb hg hm (pa_cons pe_w pa_nil (by rw [hst]; rfl)) hdb hst) (he.use R G h.bind fun p st1 H1 ρ1 v x1 R1 G1 r1 h1=>
    ⟨v,rfl,fun dx hn=>h1 C (some dx) _ ρ1 hm (Ext.add hn) (R1.add hn) ⟨dx,v,rfl,upd_same,R1.fresh hn,r1.ext (Ext.add hn)⟩⟩)⟩
end
@[simp] theorem mParts_eq (m : ME) (Γ : Gam) (st : Store) : mParts m Γ st = (m Γ st).bind fun p st1=>(match p with
  | .str x=>if x = "make" then .ok (.int 3) st1 else if x = "lend" then .ok (.int 4) st1 else if x = "use" then .ok (.int 3) st1 else .ok .non st1
  | _=>.stuck):=rfl
@[simp] theorem mDsp3_eq (k1 k2 k3 : Str) (m1 m2 m3 mi : ME) (Γ : Gam) (st : Store) : mDsp3 k1 k2 k3 m1 m2 m3 mi Γ st = (m1 Γ st).bind fun p1 st1=>(m2 Γ st1).bind fun p2 st2=>(m3 Γ st2).bind fun p3 st3=>(mi Γ st3).bind fun q st4=>pick3 k1 k2 k3 p1 p2 p3 st4 q:=rfl
@[simp] theorem pick3_str (k1 k2 k3 : Str) (p1 p2 p3 : PV) (st4 : Store) (x : Str) : pick3 k1 k2 k3 p1 p2 p3 st4 (.str x) = if x = k1 then .ok p1 st4 else if x = k2 then .ok p2 st4 else if x = k3 then .ok p3 st4 else .stuck:=rfl
@[simp] theorem mRaiseI_eq (x name : Str) (m : ME) (Γ : Gam) (st : Store) : mRaiseI x name m Γ st = (m Γ st).sbind fun p st1=>.exc ⟨x,some (name,p)⟩ st1:=rfl
theorem room_u1 {k : Nat} {A : Around} (r : Room k A) : A.units + 1 < cLine:=by have:=r.un; omega
end Sm
namespace Sm
open PySem PySem.Spec L2
section
variable {X : Cx} {E : XK}
end
end Sm
namespace Sm
open PySem PySem.Spec L2
section
variable {H0 H : Hp} {ρ0 ρ : Tk} {st : Store} {a : Addr} {ps : List (Key × PV)} {vs : List (Key × V)}
theorem out_trkD (R0 : Rel H0 ρ0 st) (x : Ext H0 ρ0 H ρ) {st1 : Store} (R : Rel H ρ st1) (hm : a ∈ ρ.hid) (hn : H0 a = none) (ha : H a = some (.dK vs)) (r : RepD H ρ ps vs) :
    Ext H0 ρ0 H ⟨ρ.tr ++ [a],ρ0.hid⟩ /\ Rel H ⟨ρ.tr ++ [a],ρ0.hid⟩ (st1 ++ [.dic ps]) /\ Rep H ⟨ρ.tr ++ [a],ρ0.hid⟩ (.ref st1.length) (.ref a):=by
  have na0 : a ∉ ρ0.hid:=fun z=>by
    obtain ⟨o,e⟩:=R0.hd a z
    rw [hn] at e; cases e
  refine ⟨⟨x.pre.trans (List.prefix_append _ _),fun _ h=>h,fun _ h=>.inl h,x.keep,fun b hb=>?_,x.old⟩,⟨?_,?_,fun b hb=>R.hd b (x.hidM b hb),fun b hb z=>?_,fun i b c h1 h2=>?_⟩,a,?_,rfl⟩
  · rcases List.mem_append.mp hb with z | z
    · exact x.new b z
    · have : b = a:=by simpa using z
      subst this; exact .inr hn
  · show (ρ.tr ++ [a]).length = _
    rw [List.length_append,List.length_append,R.len]; rfl
  · show (ρ.tr ++ [a]).Nodup
    refine List.nodup_append.mpr ⟨R.nd,by simp,fun b hb c hc e=>?_⟩
    have : c = a:=by simpa using hc
    subst this; subst e
    exact R.ap b hm hb
  · rcases List.mem_append.mp z with z | z
    · exact R.ap b (x.hidM b hb) z
    · have : b = a:=by simpa using z
      subst this; exact na0 hb
  · have h1 : (ρ.tr ++ [a])[i]? = some b:=h1
    by_cases hi : i < st1.length
    · rw [List.getElem?_append_left (by rw [R.len]; exact hi)] at h1
      rw [List.getElem?_append_left hi] at h2
      have q:=R.cell i b c h1 h2
      cases c with
      | lst qs=>
        obtain ⟨us,e1,e2⟩:=q
        exact ⟨us,e1,e2.trk hm x.hidM⟩
      | dic qs=>
        obtain ⟨us,e1,e2⟩:=q
        exact ⟨us,e1,e2.1,e2.2.trk hm x.hidM⟩
      | dtp qs=>
        obtain ⟨us,e1,e2⟩:=q
        exact ⟨us,e1,e2.1,e2.2.trk hm x.hidM⟩
    · rw [List.getElem?_append_right (by rw [R.len]; omega)] at h1
      rw [List.getElem?_append_right (by omega)] at h2
      have e0 : i - st1.length = 0:=by
        rcases Nat.eq_zero_or_pos (i - st1.length) with z | z
        · exact z
        · rw [List.getElem?_eq_none (by simp; omega)] at h2; cases h2
      rw [R.len,e0] at h1
      rw [e0] at h2
      simp at h1 h2
      subst h1; subst h2
      exact ⟨vs,ha,r.1,r.2.trk hm x.hidM⟩
  · show (ρ.tr ++ [a])[st1.length]? = some a
    rw [<- R.len,List.getElem?_append_right (Nat.le_refl _),Nat.sub_self]; rfl
end
def valP (kvs : List (Key × PV)) (k : Key) : Option PV:=(kvs.find? fun kv=>decide (kv.1 = k)).map (·.2)
def keyOf : PV -> Option Key
  | .int i=>some (.inl i)
  | .str x=>some (.inr x)
  | _=>none
theorem rep_key {H : Hp} {ρ : Tk} {p : PV} {v : V} {k : Key} (e : keyOf p = some k) (r : Rep H ρ p v) : v = kV k:=by
  cases p with
  | int i=>cases e; exact r
  | str x=>cases e; exact r
  | _=>cases e
theorem repD_val {H : Hp} {ρ : Tk} : ∀ {kvs : List (Key × PV)} {vs : List (Key × V)},RepD H ρ kvs vs -> ∀ k : Key,(valP kvs k = none /\ valV vs k = none) \/ ∃ p v,valP kvs k = some p /\ valV vs k = some v /\ Rep H ρ p v
  | [],[],_,k=>.inl ⟨rfl,rfl⟩
  | [],_ :: _,r,_=>by have:=r.length; cases this
  | _ :: _,[],r,_=>by have:=r.length; cases this
  | (k1,p1) :: kvs,(k2,v2) :: vs,r,k=>by
    obtain ⟨r1,v,t,e,r2,r3⟩:=r
    have e1 : k2 = k1 /\ vs.map Prod.fst = kvs.map Prod.fst:=by
      have : k2 :: vs.map Prod.fst = k1 :: kvs.map Prod.fst:=r1
      exact List.cons.inj this
    have e2 : v2 :: vs.map Prod.snd = v :: t:=e
    cases e2
    obtain ⟨rfl,e3⟩:=e1
    by_cases q : k2 = k
    · exact .inr ⟨p1,v2,by simp [valP,q],by simp [valV,q],r2⟩
    · have ih:=repD_val (kvs:=kvs) (vs:=vs) ⟨e3,r3⟩ k
      have a1 : valP ((k2,p1) :: kvs) k = valP kvs k:=by simp [valP,List.find?_cons,q]
      have a2 : valV ((k2,v2) :: vs) k = valV vs k:=by simp [valV,List.find?_cons,q]
      rw [a1,a2]; exact ih
section
variable {X : Cx} {E : XK} {pos dpos apos cpos : Pos} {e e1 e2 e3 i o f : Expr} {m m1 m2 m3 mi mo mf : ME} {k1 k2 k3 : Str} {j1 j2 j3 : Nat} {q1 q2 q3 : Pos}
def mDisp3 (k1 k2 k3 : Str) (m1 m2 m3 : ME) : ME:=fun Γ st=>(m1 Γ st).bind fun p1 st1=>(m2 Γ st1).bind fun p2 st2=>(m3 Γ st2).bind fun p3 st3=>.ok (.ref st3.length) (st3 ++ [.dic [(.inr k1,p1),(.inr k2,p2),(.inr k3,p3)]])
theorem se_disp3 (h1 : SimE X E e1 m1) (h2 : SimE X E e2 m2) (h3 : SimE X E e3 m3) (n12 : k1 ≠ k2:=by decide) (n13 : k1 ≠ k3:=by decide) (n23 : k2 ≠ k3:=by decide) :
    SimE X E (.Dict [some (.Constant (.str k1) j1 q1),some (.Constant (.str k2) j2 q2),some (.Constant (.str k3) j3 q3)] [e1,e2,e3] dpos) (mDisp3 k1 k2 k3 m1 m2 m3):=by
  refine ⟨fun Γ σ H ρ st Q R G h=>WE.of (pe_disp (pps_cons pe_str pe_w (pps_cons pe_str pe_w (pps_cons pe_str pe_w pps_nil))) rfl rfl (by simp) (by simp)) ?_⟩
  intro p hp
  have x0 : Ext H ρ (upd H p (.dK [])) (ρ.hide p):=Ext.hide hp
  refine h1.use' (R.hide hp) (G.hide hp) (h.bind.later x0) fun a1 st1 H1 ρ1 v1 f1 x1 R1 G1 r1 _=>?_
  have h:=h
  unfold mDisp3 at h
  rw [f1] at h
  have h : Acc X.mg E H ρ (QV Q) ((m2 Γ st1).bind fun p2 st2=>(m3 Γ st2).bind fun p3 st3=>.ok (.ref st3.length) (st3 ++ [.dic [(.inr k1,a1),(.inr k2,p2),(.inr k3,p3)]])):=h
  refine h2.use' R1 G1 (h.bind.later (x0.trans x1)) fun a2 st2 H2 ρ2 v2 f2 x2 R2 G2 r2 _=>?_
  rw [f2] at h
  have h : Acc X.mg E H ρ (QV Q) ((m3 Γ st2).bind fun p3 st3=>.ok (.ref st3.length) (st3 ++ [.dic [(.inr k1,a1),(.inr k2,a2),(.inr k3,p3)]])):=h
  refine h3.use' R2 G2 (h.bind.later ((x0.trans x1).trans x2)) fun a3 st3 H3 ρ3 v3 f3 x3 R3 G3 r3 _=>?_
  rw [f3] at h
  have h : Acc X.mg E H ρ (QV Q) (.ok (.ref st3.length) (st3 ++ [.dic [(.inr k1,a1),(.inr k2,a2),(.inr k3,a3)]])):=h
  have x123 : Ext H ρ H3 ρ3:=((x0.trans x1).trans x2).trans x3
  have xe : Ext (upd H p (.dK [])) (ρ.hide p) H3 ρ3:=(x1.trans x2).trans x3
  have pt0 : p ∉ (ρ.hide p).tr:=fun z=>R.fresh hp (.inl z)
  have hp3 : H3 p = some (.dK []):=xe.keep p _ upd_same pt0
  have ph3 : p ∈ ρ3.hid:=xe.hidM p List.mem_cons_self
  refine ⟨hp3,[(.inr k1,v1),(.inr k2,v2),(.inr k3,v3)],rfl,by simp,?_⟩
  have hm : mergeK [] [((.inr k1 : Key),v1),(.inr k2,v2),(.inr k3,v3)] = [(.inr k1,v1),(.inr k2,v2),(.inr k3,v3)]:=by
    simp [mergeK,putK,n12,n13,n23]
  rw [hm]
  have y : Ext H ρ (upd H3 p (.dK [(.inr k1,v1),(.inr k2,v2),(.inr k3,v3)])) ρ3:=x123.put0 hp
  have g1:=((r1.ext x2).ext x3).rehide (o:=.dK [(.inr k1,v1),(.inr k2,v2),(.inr k3,v3)]) ph3
  have g2:=(r2.ext x3).rehide (o:=.dK [(.inr k1,v1),(.inr k2,v2),(.inr k3,v3)]) ph3
  have g3:=r3.rehide (o:=.dK [(.inr k1,v1),(.inr k2,v2),(.inr k3,v3)]) ph3
  obtain ⟨x5,R5,r5⟩:=out_trkD (ps:=[(.inr k1,a1),(.inr k2,a2),(.inr k3,a3)]) R y (R3.rehide ph3) ph3 hp upd_same ⟨rfl,RepL.cons g1 (RepL.cons g2 (RepL.cons g3 RepL.nil))⟩
  exact h _ _ x5 R5 _ r5
def dget2 (st : Store) (i : Nat) (k z : PV) : Res PV:=match st[i]?,keyOf k with
  | some (.dic kvs),some k=>.ok ((valP kvs k).getD z) st
  | _,_=>.stuck
def isDic (st : Store) (i : Nat) : Bool:=match st[i]? with
  | some (.dic _)=>true
  | _=>false
def mDGet2 (mo m mf : ME) : ME:=fun Γ st=>(mo Γ st).bind fun p st1=>match p with
  | .ref i=>if isDic st1 i = true then (m Γ st1).bind fun k st2=>(mf Γ st2).bind fun z st3=>dget2 st3 i k z else .stuck
  | _=>.stuck
theorem se_dget2 (hu : X.A.units + 1 < cLine) (ho : SimE X E o mo) (he : SimE X E e m) (hf : SimE X E f mf) (mm : M2 X o "get" apos e f cpos) : SimE X E (.Call (.Attribute o "get" apos) [e,f] [] cpos) (mDGet2 mo m mf):=by
  refine ⟨fun Γ σ H ρ st Q R G h=>WE.of (pe_dget2 hu pe_w pe_w pe_w mm) ?_⟩
  refine ho.use' R G h.bind fun p st1 H1 ρ1 v1 f1 x1 R1 G1 r1 _=>?_
  unfold mDGet2 at h
  rw [f1] at h
  cases p with
  | ref i=>
    have h : Acc X.mg E H ρ (QV Q) (if isDic st1 i = true then (m Γ st1).bind fun k st2=>(mf Γ st2).bind fun z st3=>dget2 st3 i k z else .stuck):=h
    by_cases q : isDic st1 i = true
    · rw [if_pos q] at h
      unfold isDic at q
      obtain ⟨a,ea,e2⟩:=r1
      obtain ⟨kvs1,hk1⟩ : ∃ kvs,st1[i]? = some (.dic kvs):=by
        cases z : st1[i]? with
        | none=>rw [z] at q; cases q
        | some c=>cases c with
          | dic kvs=>exact ⟨kvs,rfl⟩
          | lst xs=>rw [z] at q; cases q
          | dtp kvs=>rw [z] at q; cases q
      obtain ⟨b,vs1,eb,hb,_⟩:=R1.dic hk1
      rw [ea] at eb
      cases eb
      refine ⟨a,e2,.inl ⟨vs1,.inl hb⟩,?_⟩
      refine he.use' R1 G1 (h.bind.later x1) fun k st2 H2 ρ2 v2 f2 x2 R2 G2 r2 _=>?_
      rw [f2] at h
      have h : Acc X.mg E H ρ (QV Q) ((mf Γ st2).bind fun z st3=>dget2 st3 i k z):=h
      refine hf.use' R2 G2 (h.bind.later (x1.trans x2)) fun z st3 H3 ρ3 v3 f3 x3 R3 G3 r3 _=>?_
      rw [f3] at h
      have h : Acc X.mg E H ρ (QV Q) (dget2 st3 i k z):=h
      unfold dget2 at h
      cases w : st3[i]? with
      | none=>rw [w] at h; exact h.elim
      | some c=>
        rw [w] at h
        cases c with
        | lst xs=>exact h.elim
        | dtp kvs=>exact h.elim
        | dic kvs=>
          cases kk : keyOf k with
          | none=>rw [kk] at h; exact h.elim
          | some k'=>
            rw [kk] at h
            have h : Acc X.mg E H ρ (QV Q) (.ok ((valP kvs k').getD z) st3):=h
            obtain ⟨b,vs,eb,hb,rd⟩:=R3.dic w
            have ea3 : ρ3.tr[i]? = some a:=by
              obtain ⟨more,em⟩:=(x2.trans x3).pre
              rw [<- em,List.getElem?_append_left (List.getElem?_eq_some_iff.mp ea).1]; exact ea
            rw [ea3] at eb
            cases eb
            have ek:=rep_key kk (r2.ext x3)
            subst ek
            refine ⟨_,DGet.k hb,?_⟩
            have xx : Ext H ρ H3 ρ3:=(x1.trans x2).trans x3
            rcases repD_val rd k' with ⟨a1,a2⟩ | ⟨p,v,a1,a2,a3⟩
            · rw [a1] at h
              rw [a2]
              exact h _ _ xx R3 _ r3
            · rw [a1] at h
              rw [a2]
              exact h _ _ xx R3 _ a3
    · rw [if_neg q] at h
      exact h.elim
  | _=>exact h.elim
@[simp] theorem mDisp3_eq (Γ : Gam) (st : Store) : mDisp3 k1 k2 k3 m1 m2 m3 Γ st = (m1 Γ st).bind fun p1 st1=>(m2 Γ st1).bind fun p2 st2=>(m3 Γ st2).bind fun p3 st3=>.ok (.ref st3.length) (st3 ++ [.dic [(.inr k1,p1),(.inr k2,p2),(.inr k3,p3)]]):=rfl
@[simp] theorem mDGet2_eq (Γ : Gam) (st : Store) : mDGet2 mo m mf Γ st = (mo Γ st).bind fun p st1=>match p with
  | .ref i=>if isDic st1 i = true then (m Γ st1).bind fun k st2=>(mf Γ st2).bind fun z st3=>dget2 st3 i k z else .stuck
  | _=>.stuck:=rfl
def idxS : List PV -> Str -> Option Nat
  | [],_=>none
  | .str t :: xs,s=>if t = s then some 0 else (idxS xs s).map (· + 1)
  | _ :: _,_=>none
def strsOf : List PV -> Option (List Str)
  | []=>some []
  | .str t :: xs=>(strsOf xs).map (t :: ·)
  | _ :: _=>none
def mtIndexS : MF:=fun st p ps=>match ps with
  | [.str s]=>match listOf st p with
    | some xs=>match strsOf xs,idxS xs s with
      | some ss,some j=>if ss.length <= 1000 then .ok (.int (j : Nat)) st else .stuck
      | _,_=>.stuck
    | none=>.stuck
  | _=>.stuck
theorem strs_rep {H : Hp} {ρ : Tk} : ∀ {xs : List PV} {ss : List Str} {vs : List V},strsOf xs = some ss -> RepL H ρ xs vs -> vs = ss.map V.str
  | [],_,_,e,r=>by cases e; exact r
  | .str t :: xs,ss,_,e,⟨v,ts,e1,r1,r2⟩=>by
    have e : (strsOf xs).map (t :: ·) = some ss:=e
    cases z : strsOf xs with
    | none=>rw [z] at e; cases e
    | some ss'=>
      rw [z] at e
      cases e
      have:=strs_rep z r2
      have r1 : v = .str t:=r1
      rw [e1,r1,this]; rfl
  | .non :: _,_,_,e,_=>by cases e
  | .bl _ :: _,_,_,e,_=>by cases e
  | .int _ :: _,_,_,e,_=>by cases e
  | .tup _ :: _,_,_,e,_=>by cases e
  | .lst _ :: _,_,_,e,_=>by cases e
  | .fro _ :: _,_,_,e,_=>by cases e
  | .ref _ :: _,_,_,e,_=>by cases e
  | .dic :: _,_,_,e,_=>by cases e
theorem idxS_at : ∀ {xs : List PV} {ss : List Str} {s : Str} {j : Nat},strsOf xs = some ss -> idxS xs s = some j -> ss[j]? = some s /\ ∀ m,m < j -> ∃ t,ss[m]? = some t /\ t ≠ s
  | [],_,_,_,_,e=>by cases e
  | .str t :: xs,ss,s,j,e,f=>by
    have e : (strsOf xs).map (t :: ·) = some ss:=e
    cases z : strsOf xs with
    | none=>rw [z] at e; cases e
    | some ss'=>
      rw [z] at e
      cases e
      by_cases q : t = s
      · have f : (if t = s then some 0 else (idxS xs s).map (· + 1)) = some j:=f
        rw [if_pos q] at f
        cases f
        exact ⟨by rw [q]; rfl,fun m hm=>absurd hm (by omega)⟩
      · have f : (if t = s then some 0 else (idxS xs s).map (· + 1)) = some j:=f
        rw [if_neg q] at f
        cases w : idxS xs s with
        | none=>rw [w] at f; cases f
        | some j'=>
          rw [w] at f
          cases f
          obtain ⟨a,b⟩:=idxS_at z w
          refine ⟨by simpa using a,fun m hm=>?_⟩
          cases m with
          | zero=>exact ⟨t,rfl,q⟩
          | succ m=>
            have hm' : m + 1 < j' + 1:=hm
            obtain ⟨t',h1,h2⟩:=b m (by omega)
            exact ⟨t',by simpa using h1,h2⟩
  | .non :: _,_,_,_,e,_=>by cases e
  | .bl _ :: _,_,_,_,e,_=>by cases e
  | .int _ :: _,_,_,_,e,_=>by cases e
  | .tup _ :: _,_,_,_,e,_=>by cases e
  | .lst _ :: _,_,_,_,e,_=>by cases e
  | .fro _ :: _,_,_,_,e,_=>by cases e
  | .ref _ :: _,_,_,_,e,_=>by cases e
  | .dic :: _,_,_,_,e,_=>by cases e
theorem ms_indexS : MtS X E "list.index" mtIndexS:=⟨fun H ρ st p ps x xs Q R rp rs h=>by
  unfold mtIndexS at h
  split at h
  · rename_i s
    obtain ⟨v,rfl,r⟩:=repL_one rs
    have r : v = .str s:=r
    subst r
    split at h
    · rename_i ys el
      obtain ⟨a,vs,rfl,hr,rl⟩:=list_at R rp el
      split at h
      · rename_i ss j e1 e2
        split at h
        · rename_i hl
          have ev:=strs_rep e1 rl
          subst ev
          obtain ⟨a1,a2⟩:=idxS_at e1 e2
          exact WM.of mt_indexS ⟨a,ss,s,j,rfl,rfl,hr,hl,a1,a2,now R h rfl⟩
        · exact h.elim
      · exact h.elim
    · exact h.elim
  · exact h.elim⟩
theorem se_indexS {mr : Gam -> Store -> Res (List PV)} (ho : SimE X E o mo) (ha : SimA X E [e] mr) (hbase : attributeBase o "index" X.env (eval o X.env) = eval o X.env:=by rfl)
    (hfew : ((backTo cpos (starEach [e] X.env)).all (fun x=>!x.1) && (backToKw cpos (keywordEach [] X.env)).all (fun x=>x.1.isSome)
      && decide (([e] : List Expr).length + ([] : List Keyword).length + (if ([] : List Keyword).isEmpty then 0 else 1) < 30)) = true:=by rfl)
    (hline : (apos.endLine == cpos.line) = true:=by rfl) (hs : starEach [e] X.env = (false,eval e X.env) :: starEach [] X.env:=by rfl) (hplain : (backTo cpos (starEach [] X.env)).any (·.1) = false:=by rfl) :
    SimE X E (.Call (.Attribute o "index" apos) [e] [] cpos) (mBM mtIndexS mo mr):=
  se_bm PySem.F.plainAttrs_list PySem.F.slot_list_index PySem.F.type_list_index ms_indexS ho ha hbase hfew hline hs hplain
end
end Sm
namespace Sm
open PySem PySem.Spec L2
structure AtS (K : PySem.W.Frag) (mg : Str -> Option Value) (name : Str) (st : Stmt) (ps : List Str) (f : Addr) (fd : FuncData) : Prop where
  F : Fun K name name st f fd
  m : mg name = some (.ref f)
  b : Binds K fd ps []
theorem atS_mk {K : PySem.W.Frag} {mg : Str -> Option Value} {h : Heap} {name : Str} {st : Stmt} {ps : List Str} {f : Addr} {oc : Value} {od an : Option Addr} {osl : Array (Option Value)} {kV doc pm cdv ct : Value} (X : K.In h) (G : h.Ns mainGlobals mg)
    (a : PySem.W.nsIn K mainGlobals name = some (some (.ref f))) (l : K.lookup f = some ⟨oc,od,.func (PySem.W.fnOf name name (defArgs st) (defBody st) (defScope st) .none kV doc pm an cdv ct),osl⟩) (c : PySem.W.codeIn K cdv name = true) (k : PySem.W.keepIn K (.ref f) = true)
    (b : ∀ (kV doc pm : Value) (an : Option Addr) (cdv ct : Value) (us : List Value),us.length = ps.length -> bindArgs (PySem.W.fnOf name name (defArgs st) (defBody st) (defScope st) .none kV doc pm an cdv ct) ⟨us,[]⟩ = pure (ps.zip us)) :
    AtS K mg name st ps f (PySem.W.fnOf name name (defArgs st) (defBody st) (defScope st) .none kV doc pm an cdv ct):=
  have F:=fun_mk (st:=st) l c k
  ⟨F,PySem.W.mg_of X G a,F.binds b⟩
theorem AtS.def {P : Program} {w : World} {K : PySem.W.Frag} {mg : Str -> Option Value} {base : Heap} {name : Str} {st : Stmt} {ps : List Str} {f : Addr} {fd : FuncData} {k n : Nat} {F : FN} (a : AtS K mg name st ps f fd) (hn : ps.length = n) (G : FnOk P w K mg base (CXD P w) k f fd ps (spF mg n F)) : DefS P w K mg base k name n F:=
  ⟨f,fd,ps,G,a.m,a.F.kp,a.b,hn⟩
def noL (K : PySem.W.Frag) : Bool:=K.all fun p=>match p.2.data with
  | .seq _ _=>(match p.2.cls with
    | .type n=>!(n == ("list" : Str))
    | _=>true)
  | _=>true
theorem lookup_mem {K : PySem.W.Frag} {a : Addr} {o : Obj} (h : K.lookup a = some o) : (a,o) ∈ K:=by
  induction K with
  | nil=>cases h
  | cons p K ih=>
    obtain ⟨b,u⟩:=p
    rw [List.lookup_cons] at h
    cases e : a == b with
    | true=>
      rw [e] at h
      have : a = b:=by simpa using e
      subst this
      cases h
      exact List.mem_cons_self
    | false=>
      rw [e] at h
      exact List.mem_cons_of_mem _ (ih h)
theorem noL_no {K : PySem.W.Frag} {a : Addr} {o : Obj} {its : Array Value} {n : Nat} (hL : noL K = true) (h : K.lookup a = some o) (hc : o.cls = .type "list") (hd : o.data = .seq its n) : False:=by
  have:=List.all_eq_true.mp hL _ (lookup_mem h)
  simp [hc,hd] at this
theorem repL_ints {H : Hp} {ρ : Tk} : ∀ ns : List Int,RepL H ρ (ns.map .int) (ns.map V.int)
  | []=>rfl
  | n :: ns=>⟨_,_,rfl,rfl,repL_ints ns⟩
theorem rel_nil (H : Hp) : Rel H Tk.nil []:=⟨rfl,List.nodup_nil,fun a h=>(by cases h),fun a h=>(by cases h),fun i a c h=>(by simp [Tk.nil] at h)⟩
def spLawS (K : PySem.W.Frag) : Sp:=fun vs H Q _=>∃ (a : Addr) (ns : List Int),vs = [.ref a] /\ SqL K H a (ns.map V.int) /\ ns.length <= 63 /\ ∀ H',Q (.bl true) H'
theorem law_imp {P : Program} {w : World} {K : PySem.W.Frag} {mg : Str -> Option Value} {base : Heap} {CX : CXT} {k : Nat} {f : Addr} {fd : FuncData} {ps : List Str} {FL : FN} (hL : noL K = true) (F : FnOk P w K mg base CX k f fd ps (spF mg 1 FL)) (hlaw : ∀ ns : List Int,ns.length <= 63 -> ∃ st',FL [.fro (ns.map .int)] [] = .ok (.bl true) st') : FnOk P w K mg base CX k f fd ps (spLawS K):=F.imp fun vs H Q E ⟨a,ns,e,hS,hl,hQ⟩=>by
  subst e
  obtain ⟨st',hF⟩:=hlaw ns hl
  have hR : Rd H a (.lst (ns.map V.int)):=by
    rcases hS with h | ⟨o,its,n,h1,h2,h3,h4,_⟩
    · exact h
    · exact (noL_no hL h1 h2 h4).elim
  refine ⟨rfl,Tk.nil,[],[.fro (ns.map .int)],rel_nil H,⟨_,_,rfl,⟨a,_,rfl,hR,Tk.not_nil a,repL_ints ns⟩,rfl⟩,?_⟩
  rw [hF]
  intro H' ρ' x R v r
  have e : v = .bl true:=r
  subst e
  exact hQ H'
theorem cxd_none {P : Program} {w : World} {H : Hp} {s : Shared} {e : Value} {s' : Shared} (h : CXD P w [] H s (fun _ _ _=>False) e s') : False:=by
  obtain ⟨_,_,_,_,_,_,_,_,_,z⟩:=h
  exact z
theorem walkS {l : PySem.W.OpenLaw} {k : Nat} {q : Program} {loose : List Str} {XP : (Str -> Option Value) -> Heap -> Prop} {YP : World -> Heap -> Prop} {d : DefRec} {K : Params -> PySem.W.Frag} (hn : l.most = some 63) (hr : Room k callerA) (hdf : d.params.defaults = [])
    (hY : ∀ (w : World) (h : Heap),YP w h -> (K w.params).In h)
    (F : ∀ (w : World) (mg : Str -> Option Value) (fa : Addr) (h : Heap),(K w.params).In h -> h.Ns mainGlobals mg -> mg d.name = some (.ref fa) ->
      ∃ fd : FuncData,(∀ (s : Shared) (u : Value),BindsTo s fd ⟨[u],[]⟩ [("script",u)]) /\ ∀ base : Heap,(K w.params).In base -> base.Ns mainGlobals mg -> FnOk l.prog w (K w.params) mg base (CXD l.prog w) k fa fd ["script"] (spLawS (K w.params))) :
    PySem.W.WalkO q loose XP YP l.row.toRowW d [] (fun f vs=>PySem.call f vs):=
  L2.walk_of (n:=63) (k:=k) (x := "script") (CX:=fun w=>CXD l.prog w) (sp:=fun w=>spLawS (K w.params)) hn (by decide) hdf hr hY F (fun _ _ a ns hl _ hS=>⟨a,ns,rfl,hS,hl,fun _=>rfl⟩) fun _ _ _ _ _ z=>cxd_none z
end Sm
namespace Lw
open PySem PySem.Spec L2 Sm
def top (i : Nat) : Stmt:=PySem.Challenge.pw_lendwharf_k08_deeds_refused.main.body.getD i (.Pass ⟨0,0,0,0⟩)
abbrev s_is_whole : Stmt:=top 17
abbrev s_is_between : Stmt:=top 18
abbrev s_is_house : Stmt:=top 20
abbrev s_rights : Stmt:=top 21
abbrev s_is_text_and_numbers : Stmt:=top 24
abbrev s_is_deed : Stmt:=top 25
abbrev s_need_houses_of_deed : Stmt:=top 26
abbrev s_place_in_row : Stmt:=top 27
abbrev s_raised : Stmt:=top 28
abbrev s_done : Stmt:=top 29
abbrev s__law_b_draw : Stmt:=top 31
abbrev s__law_b_entry : Stmt:=top 32
abbrev s__law_b_table : Stmt:=top 33
abbrev s__law_b_rights : Stmt:=top 34
abbrev s__law_b_told : Stmt:=top 35
abbrev s__law_b_house : Stmt:=top 36
abbrev s__law_b_tuple : Stmt:=top 37
abbrev s__law_b_due : Stmt:=top 38
abbrev s_law : Stmt:=top 39
structure Txt (mg : Str -> Option Value) : Prop where
  b_all : mg "all" = none
  b_any : mg "any" = none
  b_bool : mg "bool" = none
  b_int : mg "int" = none
  b_isinstance : mg "isinstance" = none
  b_len : mg "len" = none
  b_list : mg "list" = none
  b_max : mg "max" = none
  b_min : mg "min" = none
  b_range : mg "range" = none
  b_str : mg "str" = none
  b_sum : mg "sum" = none
  b_tuple : mg "tuple" = none
def clsBody : Stmt -> List Stmt
  | .ClassDef _ _ _ b _ _ _ _ _ _ _=>b
  | _=>[]
abbrev sInit : Stmt:=(clsBody (top 15)).getD 0 (.Pass ⟨0,0,0,0⟩)
structure ShortOk (K : PySem.W.Frag) (mg : Str -> Option Value) (c0 cs fI : Addr) : Prop where
  m0 : mg "WharfError" = some (.ref c0)
  ms : mg "Short" = some (.ref cs)
  M : XMade K cs c0 fI
  L : XCall K c0
  S : XSet K cs c0 "had"
structure ShortS (P : Program) (w : World) (K : PySem.W.Frag) (mg : Str -> Option Value) (base : Heap) : Prop where
  ex : ∃ (C W f : Addr) (fd : FuncData),XMade K C W f /\ FnOk P w K mg base CX0 1 f fd ["self", "had"] (spInit C "had") /\ Binds K fd ["self", "had"] [] /\ mg "Short" = some (.ref C)
section
variable {P : Program} {w : World} {K : PySem.W.Frag} {mg : Str -> Option Value} {base : Heap}
theorem scInit : FnScope ["self", "had"] ["self", "had"] (defScope sInit):=⟨rfl,rfl,rfl,by decide +kernel,rfl,by decide +kernel,by decide +kernel⟩
theorem ok_init {f c0 cs : Addr} {fd : FuncData} (F : Fun K "__init__" "Short.__init__" sInit f fd) (O : ShortOk K mg c0 cs f) : FnOk P w K mg base CX0 1 f fd ["self", "had"] (spInit cs "had"):=by
  refine F.ok scInit (fun vs H Q E h=>?_) (fun cdv A outer s H vs Q E hr h=>?_)
  · obtain ⟨x,v,rfl,_⟩:=h
    rfl
  · obtain ⟨x,v,rfl,hx,kk⟩:=h
    refine ⟨_,pss_cons (ps_expr (pe_xinit O.M O.L (by rfl) O.m0 (pa_cons (pv 0) (pa_cons pe_str pa_nil))))
      (pss_one (ps_xset (fun b z=>absurd (show b ∈ ([] : List Addr) from z) (by simp)) O.S (pv 0) (pv 1))),?_⟩
    exact ⟨_,rfl,x,_,rfl,hx,_,rfl,_,rfl,x,rfl,hx,kk⟩
end
section
variable {P : Program} {w : World} {K : PySem.W.Frag} {mg : Str -> Option Value} {base : Heap}
def m_is_whole : MS:=(mRet (mAnd (mIsI "int" (mVar 0)) (mNot (mIsI "bool" (mVar 0)))))
def F_is_whole : FN:=callF m_is_whole 1
theorem sc_is_whole : FnScope ["thing"] ["thing"] (defScope s_is_whole):=⟨rfl,rfl,rfl,by decide +kernel,rfl,by decide +kernel,by decide +kernel⟩
theorem ok_is_whole {f : Addr} {fd : FuncData} (F : Fun K "is_whole" "is_whole" s_is_whole f fd) (T : Txt mg)   : FnOk P w K mg base (CXD P w) 1 f fd ["thing"] (spF mg 1 F_is_whole):=by
  refine fun_ok2 (k:=0) (m:=m_is_whole) F sc_is_whole rfl rfl rfl fun cdv A outer s H E hr=>?_
  exact (sb_one (ss_ret (se_and (se_isi (T := "int") (by decide) (se_var 0) rfl T.b_isinstance rfl T.b_int boot_int) (se_one (se_not (se_isi (T := "bool") (by decide) (se_var 0) rfl T.b_isinstance rfl T.b_bool boot_bool))))))
def m_is_between : MS:=(mRet (mAnd (mCallF 1 F_is_whole (mCons (mVar 0) mNil)) (mChain (oI fun a b=>.bl (decide (a <= b))) (oI fun a b=>.bl (decide (a <= b))) (mVar 1) (mVar 0) (mVar 2))))
def F_is_between : FN:=callF m_is_between 3
theorem sc_is_between : FnScope ["thing", "least", "most"] ["thing", "least", "most"] (defScope s_is_between):=⟨rfl,rfl,rfl,by decide +kernel,rfl,by decide +kernel,by decide +kernel⟩
theorem ok_is_between {f : Addr} {fd : FuncData} (F : Fun K "is_between" "is_between" s_is_between f fd) (T : Txt mg)  (D_is_whole : DefS P w K mg base 1 "is_whole" 1 F_is_whole) : FnOk P w K mg base (CXD P w) 2 f fd ["thing", "least", "most"] (spF mg 3 F_is_between):=by
  refine fun_ok2 (k:=1) (m:=m_is_between) F sc_is_between rfl rfl rfl fun cdv A outer s H E hr=>?_
  exact (sb_one (ss_ret (se_and (se_call D_is_whole (hr.mono (by decide)) pass_onD rfl (sa_cons (se_var 0) sa_nil)) (se_one (se_chain os_le os_le (se_var 1) (se_var 0) (se_var 2))))))
def m_is_house : MS:=(mRet (mCallF 3 F_is_between (mCons (mVar 1) (mCons (mC (.int 0)) (mCons (mOp (oI fun a b=>.int (a - b)) (mCall cLen (mCons (mVar 0) mNil)) (mC (.int 1))) mNil)))))
def F_is_house : FN:=callF m_is_house 2
theorem sc_is_house : FnScope ["table", "thing"] ["table", "thing"] (defScope s_is_house):=⟨rfl,rfl,rfl,by decide +kernel,rfl,by decide +kernel,by decide +kernel⟩
theorem ok_is_house {f : Addr} {fd : FuncData} (F : Fun K "is_house" "is_house" s_is_house f fd) (T : Txt mg)  (D_is_between : DefS P w K mg base 2 "is_between" 3 F_is_between) : FnOk P w K mg base (CXD P w) 3 f fd ["table", "thing"] (spF mg 2 F_is_house):=by
  refine fun_ok2 (k:=2) (m:=m_is_house) F sc_is_house rfl rfl rfl fun cdv A outer s H E hr=>?_
  exact (sb_one (ss_ret (se_call D_is_between (hr.mono (by decide)) pass_onD rfl (sa_cons (se_var 1) (sa_cons se_int (sa_cons (se_op os_sub (se_callB cs_len rfl T.b_len PySem.boot_len (sa_cons (se_var 0) sa_nil)) se_int) sa_nil))))))
def e_rights_1 : ME:=(mOp oIx (mVar 0) (mVar 1))
def m_rights : MS := (mSeqS (mIfS (tNotM (toB (mCallF 2 F_is_house (mCons (mVar 0) (mCons (mVar 1) mNil))))) (mRaise "NoHouse" (mC (.str "no house of this table"))) mNext)
    (mSeqS (mSet 2 (mCall (cInts fun ns=>some (.int ns.sum)) (mCons (mVal (mCompN [none,some 1] (gaName 0) (mSeq (mVar 0)) mTrue e_rights_1)) mNil)))
    (mSeqS (mSet 3 (mOp oIx (mVar 0) (mVar 1)))
    (mSeqS (mSet 4 (mOp (oI fun a b=>.int (a - b)) (mCall (cInts fun ns=>some (.int ns.sum)) (mCons (mVar 3) mNil)) (mOp oIx (mVar 3) (mVar 1))))
    (mRet (mOp (oI fun a b=>.int (a - b)) (mVar 2) (mVar 4)))))))
def F_rights : FN:=callF m_rights 5
theorem sc_rights : FnScope ["table", "house", "gained", "own", "spent"] ["table", "house"] (defScope s_rights):=⟨rfl,rfl,rfl,by decide +kernel,rfl,by decide +kernel,by decide +kernel⟩
theorem ok_rights {f : Addr} {fd : FuncData} (F : Fun K "rights" "rights" s_rights f fd) (T : Txt mg) (C_NoHouse : ∃ C,mg "NoHouse" = some (.ref C) /\ PySem.W.excIn K C bmVE "ValueError.__new__" = true) (D_is_house : DefS P w K mg base 3 "is_house" 2 F_is_house) : FnOk P w K mg base (CXD P w) 4 f fd ["table", "house"] (spF mg 2 F_rights):=by
  refine fun_ok2 (k:=3) (m:=m_rights) F sc_rights rfl rfl rfl fun cdv A outer s H E hr=>?_
  exact (sb_cons (ss_if (st_not (st_val (se_call D_is_house (hr.mono (by decide)) pass_onD rfl (sa_cons (se_var 0) (sa_cons (se_var 1) sa_nil))))) (sb_one (ss_raise rfl raiseDok rfl C_NoHouse.choose_spec.1 C_NoHouse.choose_spec.2 se_str)) sb_nil)
    (sb_cons (ss_set 2 sc_rights.nd (se_callB (cs_sum rfl) rfl T.b_sum boot_sum (sa_cons (se_val (sn_comp [none,some 1] ["row", "house"] rfl (si_seq (se_var 0)) (fun _ _ _ _ _=>(sg_name (i:=0) (show (["row", "house"] : List Str).Nodup by decide +kernel))) (fun _ _ _ _ _=>(se_ix (se_var 0) (se_var 1))) (fun _ _ _ _ _=>sts_nil) free_name)) sa_nil)))
    (sb_cons (ss_set 3 sc_rights.nd (se_ix (se_var 0) (se_var 1)))
    (sb_cons (ss_set 4 sc_rights.nd (se_op os_sub (se_callB (cs_sum rfl) rfl T.b_sum boot_sum (sa_cons (se_var 3) sa_nil)) (se_ix (se_var 3) (se_var 1))))
    (sb_one (ss_ret (se_op os_sub (se_var 2) (se_var 4))))))))
def e_is_text_and_numbers_1 : ME:=(mCallF 1 F_is_whole (mCons (mVar 0) mNil))
def m_is_text_and_numbers : MS := (mSeqS (mIfS (tOrM (tNotM (toB (mIsI "tuple" (mVar 0)))) (tOrM (toB (mOp oEq (mCall cLen (mCons (mVar 0) mNil)) (mC (.int 0)))) (tNotM (toB (mIsI "str" (mOp oIx (mVar 0) (mC (.int 0)))))))) (mRet (mC (.bl false))) mNext)
    (mRet (mCall (cBls fun ns=>.bl (ns.all id)) (mCons (mVal (mCompN [none] (gaName 0) (mSeq (mSl (mVar 0) (mPart (mC (.int 1))) mNoPart)) mTrue e_is_text_and_numbers_1)) mNil))))
def F_is_text_and_numbers : FN:=callF m_is_text_and_numbers 1
theorem sc_is_text_and_numbers : FnScope ["thing"] ["thing"] (defScope s_is_text_and_numbers):=⟨rfl,rfl,rfl,by decide +kernel,rfl,by decide +kernel,by decide +kernel⟩
theorem ok_is_text_and_numbers {f : Addr} {fd : FuncData} (F : Fun K "is_text_and_numbers" "is_text_and_numbers" s_is_text_and_numbers f fd) (T : Txt mg)  (D_is_whole : DefS P w K mg base 1 "is_whole" 1 F_is_whole) : FnOk P w K mg base (CXD P w) 2 f fd ["thing"] (spF mg 1 F_is_text_and_numbers):=by
  refine fun_ok2 (k:=1) (m:=m_is_text_and_numbers) F sc_is_text_and_numbers rfl rfl rfl fun cdv A outer s H E hr=>?_
  exact (sb_cons (ss_if (SimW.t (sw_or (st_not (st_val (se_isi (T := "tuple") (by decide) (se_var 0) rfl T.b_isinstance rfl T.b_tuple boot_tuple))) (sw_or (st_cmp (os_eq hr.units) (se_callB cs_len rfl T.b_len PySem.boot_len (sa_cons (se_var 0) sa_nil)) se_int) (sw_or1 (st_not (st_val (se_isi (T := "str") (by decide) (se_ix (se_var 0) se_int) rfl T.b_isinstance rfl T.b_str boot_str))))))) (sb_one (ss_ret se_bl)) sb_nil)
    (sb_one (ss_ret (se_callB (cs_all rfl) rfl T.b_all boot_all (sa_cons (se_val (sn_comp [none] ["part"] rfl (si_seq (se_slice (se_var 0) (so_some se_int) so_none)) (fun _ _ _ _ _=>(sg_name (i:=0) (show (["part"] : List Str).Nodup by decide +kernel))) (fun _ _ _ _ _=>(se_call D_is_whole (hr.mono (by decide)) pass00D rfl (sa_cons (se_var 0) sa_nil))) (fun _ _ _ _ _=>sts_nil) free_name)) sa_nil)))))
def m_is_deed : MS:=(mRet (mAnd (mCallF 1 F_is_text_and_numbers (mCons (mVar 0) mNil)) (mAnd (mOp oEq (mCall cLen (mCons (mVar 0) mNil)) (mParts (mOp oIx (mVar 0) (mC (.int 0))))) (mOp (oI fun a b=>.bl (decide (b <= a))) (mOp oIx (mVar 0) (mNeg (mC (.int 1)))) (mC (.int 1))))))
def F_is_deed : FN:=callF m_is_deed 1
theorem sc_is_deed : FnScope ["thing"] ["thing"] (defScope s_is_deed):=⟨rfl,rfl,rfl,by decide +kernel,rfl,by decide +kernel,by decide +kernel⟩
theorem ok_is_deed {f : Addr} {fd : FuncData} (F : Fun K "is_deed" "is_deed" s_is_deed f fd) (T : Txt mg) (PK : PartsOk P w K mg)  (D_is_text_and_numbers : DefS P w K mg base 2 "is_text_and_numbers" 1 F_is_text_and_numbers) : FnOk P w K mg base (CXD P w) 3 f fd ["thing"] (spF mg 1 F_is_deed):=by
  refine fun_ok2 (k:=2) (m:=m_is_deed) F sc_is_deed rfl rfl rfl fun cdv A outer s H E hr=>?_
  exact (sb_one (ss_ret (se_and (se_call D_is_text_and_numbers (hr.mono (by decide)) pass_onD rfl (sa_cons (se_var 0) sa_nil)) (se_and (se_cmp (os_eq hr.units) (se_callB cs_len rfl T.b_len PySem.boot_len (sa_cons (se_var 0) sa_nil)) (se_parts PK rfl (se_ix (se_var 0) se_int))) (se_one (se_cmp os_ge (se_ix (se_var 0) (se_neg se_int)) se_int))))))
def e_need_houses_of_deed_1 : ME:=(mCallF 2 F_is_house (mCons (mVar 1) (mCons (mVar 0) mNil)))
def m_need_houses_of_deed : MS := (mSeqS (mSet 2 (mSl (mVar 1) (mPart (mC (.int 1))) (mPart (mNeg (mC (.int 1))))))
    (mSeqS (mIfS (tNotM (toB (mCall (cBls fun ns=>.bl (ns.all id)) (mCons (mVal (mCompN [none,some 0] (gaName 0) (mSeq (mVar 2)) mTrue e_need_houses_of_deed_1)) mNil)))) (mRaise "NoHouse" (mC (.str "no house of this table"))) mNext)
    (mIfS (tAndM (toB (mOp oEq (mOp oIx (mVar 1) (mC (.int 0))) (mC (.str "lend")))) (toB (mOp oEq (mOp oIx (mVar 2) (mC (.int 0))) (mOp oIx (mVar 2) (mC (.int 1)))))) (mRaise "NoHouse" (mC (.str "a house lends nothing to itself"))) mNext)))
def F_need_houses_of_deed : FN:=callF m_need_houses_of_deed 3
theorem sc_need_houses_of_deed : FnScope ["table", "deed", "houses"] ["table", "deed"] (defScope s_need_houses_of_deed):=⟨rfl,rfl,rfl,by decide +kernel,rfl,by decide +kernel,by decide +kernel⟩
theorem ok_need_houses_of_deed {f : Addr} {fd : FuncData} (F : Fun K "need_houses_of_deed" "need_houses_of_deed" s_need_houses_of_deed f fd) (T : Txt mg) (C_NoHouse : ∃ C,mg "NoHouse" = some (.ref C) /\ PySem.W.excIn K C bmVE "ValueError.__new__" = true) (D_is_house : DefS P w K mg base 3 "is_house" 2 F_is_house) : FnOk P w K mg base (CXD P w) 4 f fd ["table", "deed"] (spF mg 2 F_need_houses_of_deed):=by
  refine fun_ok2 (k:=3) (m:=m_need_houses_of_deed) F sc_need_houses_of_deed rfl rfl rfl fun cdv A outer s H E hr=>?_
  exact (sb_cons (ss_set 2 sc_need_houses_of_deed.nd (se_slice (se_var 1) (so_some se_int) (so_some (se_neg se_int))))
    (sb_cons (ss_if (st_not (st_val (se_callB (cs_all rfl) rfl T.b_all boot_all (sa_cons (se_val (sn_comp [none,some 0] ["house", "table"] rfl (si_seq (se_var 2)) (fun _ _ _ _ _=>(sg_name (i:=0) (show (["house", "table"] : List Str).Nodup by decide +kernel))) (fun _ _ _ _ _=>(se_call D_is_house (hr.mono (by decide)) pass00D rfl (sa_cons (se_var 1) (sa_cons (se_var 0) sa_nil)))) (fun _ _ _ _ _=>sts_nil) free_name)) sa_nil)))) (sb_one (ss_raise rfl raiseDok rfl C_NoHouse.choose_spec.1 C_NoHouse.choose_spec.2 se_str)) sb_nil)
    (sb_one (ss_if (SimW.t (sw_and (st_cmp (os_eq hr.units) (se_ix (se_var 1) se_int) se_str) (sw_and1 (st_cmp (os_eq hr.units) (se_ix (se_var 2) se_int) (se_ix (se_var 2) se_int))))) (sb_one (ss_raise rfl raiseDok rfl C_NoHouse.choose_spec.1 C_NoHouse.choose_spec.2 se_str)) sb_nil))))
def m_place_in_row : MS := (mSeqS (mIfS (toB (mOp oEq (mOp oIx (mVar 1) (mC (.int 0))) (mC (.str "make")))) (mRet (mOp oIx (mVar 1) (mC (.int 1)))) mNext)
    (mSeqS (mIfS (toB (mOp oEq (mOp oIx (mVar 1) (mC (.int 0))) (mC (.str "lend")))) (mRet (mOp oIx (mVar 1) (mC (.int 2)))) mNext)
    (mRet (mCall cLen (mCons (mVar 0) mNil)))))
def F_place_in_row : FN:=callF m_place_in_row 2
theorem sc_place_in_row : FnScope ["table", "deed"] ["table", "deed"] (defScope s_place_in_row):=⟨rfl,rfl,rfl,by decide +kernel,rfl,by decide +kernel,by decide +kernel⟩
theorem ok_place_in_row {f : Addr} {fd : FuncData} (F : Fun K "place_in_row" "place_in_row" s_place_in_row f fd) (T : Txt mg)   : FnOk P w K mg base (CXD P w) 1 f fd ["table", "deed"] (spF mg 2 F_place_in_row):=by
  refine fun_ok2 (k:=0) (m:=m_place_in_row) F sc_place_in_row rfl rfl rfl fun cdv A outer s H E hr=>?_
  exact (sb_cons (ss_if (st_cmp (os_eq hr.units) (se_ix (se_var 1) se_int) se_str) (sb_one (ss_ret (se_ix (se_var 1) se_int))) sb_nil)
    (sb_cons (ss_if (st_cmp (os_eq hr.units) (se_ix (se_var 1) se_int) se_str) (sb_one (ss_ret (se_ix (se_var 1) se_int))) sb_nil)
    (sb_one (ss_ret (se_callB cs_len rfl T.b_len PySem.boot_len (sa_cons (se_var 0) sa_nil))))))
def m_raised : MS := (mSeqS (mSet 4 (mOp oIx (mVar 0) (mVar 1)))
    (mSeqS (mSet 5 (mOp oAdd (mOp oAdd (mSl (mVar 4) mNoPart (mPart (mVar 2))) (mTup (mCons (mOp oAdd (mOp oIx (mVar 4) (mVar 2)) (mVar 3)) mNil))) (mSl (mVar 4) (mPart (mOp oAdd (mVar 2) (mC (.int 1)))) mNoPart)))
    (mRet (mOp oAdd (mOp oAdd (mSl (mVar 0) mNoPart (mPart (mVar 1))) (mTup (mCons (mVar 5) mNil))) (mSl (mVar 0) (mPart (mOp oAdd (mVar 1) (mC (.int 1)))) mNoPart)))))
def F_raised : FN:=callF m_raised 6
theorem sc_raised : FnScope ["table", "house", "place", "k", "row", "higher"] ["table", "house", "place", "k"] (defScope s_raised):=⟨rfl,rfl,rfl,by decide +kernel,rfl,by decide +kernel,by decide +kernel⟩
theorem ok_raised {f : Addr} {fd : FuncData} (F : Fun K "raised" "raised" s_raised f fd) (T : Txt mg)   : FnOk P w K mg base (CXD P w) 1 f fd ["table", "house", "place", "k"] (spF mg 4 F_raised):=by
  refine fun_ok2 (k:=0) (m:=m_raised) F sc_raised rfl rfl rfl fun cdv A outer s H E hr=>?_
  exact (sb_cons (ss_set 4 sc_raised.nd (se_ix (se_var 0) (se_var 1)))
    (sb_cons (ss_set 5 sc_raised.nd (se_op os_add (se_op os_add (se_slice (se_var 4) so_none (so_some (se_var 2))) (se_tup (sa_cons (se_op os_add (se_ix (se_var 4) (se_var 2)) (se_var 3)) sa_nil))) (se_slice (se_var 4) (so_some (se_op os_add (se_var 2) se_int)) so_none)))
    (sb_one (ss_ret (se_op os_add (se_op os_add (se_slice (se_var 0) so_none (so_some (se_var 1))) (se_tup (sa_cons (se_var 5) sa_nil))) (se_slice (se_var 0) (so_some (se_op os_add (se_var 1) se_int)) so_none))))))
def m_done : MS := (mSeqS (mIfS (tNotM (toB (mCallF 1 F_is_deed (mCons (mVar 1) mNil)))) (mRaise "NoDeed" (mC (.str "neither a making nor a lending nor a using of one right or more"))) mNext)
    (mSeqS (mExpr (mCallF 2 F_need_houses_of_deed (mCons (mVar 0) (mCons (mVar 1) mNil))))
    (mSeqS (mSet 2 (mOp oIx (mVar 1) (mC (.int 1))))
    (mSeqS (mSet 3 (mOp oIx (mVar 1) (mNeg (mC (.int 1)))))
    (mSeqS (mIfS (toB (mOp oNe (mOp oIx (mVar 1) (mC (.int 0))) (mC (.str "make")))) (mSeqS (mSet 4 (mCallF 2 F_rights (mCons (mVar 0) (mCons (mVar 2) mNil))))
    (mIfS (toB (mOp oLt (mVar 4) (mVar 3))) (mRaiseI "Short" "had" (mVar 4)) mNext)) mNext)
    (mRet (mCallF 4 F_raised (mCons (mVar 0) (mCons (mVar 2) (mCons (mCallF 2 F_place_in_row (mCons (mVar 0) (mCons (mVar 1) mNil))) (mCons (mVar 3) mNil)))))))))))
def F_done : FN:=callF m_done 5
theorem sc_done : FnScope ["table", "deed", "house", "k", "had"] ["table", "deed"] (defScope s_done):=⟨rfl,rfl,rfl,by decide +kernel,rfl,by decide +kernel,by decide +kernel⟩
theorem ok_done {f : Addr} {fd : FuncData} (F : Fun K "done" "done" s_done f fd) (T : Txt mg) (O_Short : ShortS P w K mg base) (C_NoDeed : ∃ C,mg "NoDeed" = some (.ref C) /\ PySem.W.excIn K C bmVE "ValueError.__new__" = true) (D_is_deed : DefS P w K mg base 3 "is_deed" 1 F_is_deed) (D_need_houses_of_deed : DefS P w K mg base 4 "need_houses_of_deed" 2 F_need_houses_of_deed) (D_rights : DefS P w K mg base 4 "rights" 2 F_rights) (D_raised : DefS P w K mg base 1 "raised" 4 F_raised) (D_place_in_row : DefS P w K mg base 1 "place_in_row" 2 F_place_in_row) : FnOk P w K mg base (CXD P w) 5 f fd ["table", "deed"] (spF mg 2 F_done):=by
  obtain ⟨cShort,wShort,fShort,fdShort,MShort,IShort,bShort,mShort⟩:=O_Short.ex
  refine fun_ok2 (k:=4) (m:=m_done) F sc_done rfl rfl rfl fun cdv A outer s H E hr=>?_
  exact (sb_cons (ss_if (st_not (st_val (se_call D_is_deed (hr.mono (by decide)) pass_onD rfl (sa_cons (se_var 1) sa_nil)))) (sb_one (ss_raise rfl raiseDok rfl C_NoDeed.choose_spec.1 C_NoDeed.choose_spec.2 se_str)) sb_nil)
    (sb_cons (ss_expr (se_call D_need_houses_of_deed (hr.mono (by decide)) pass_onD rfl (sa_cons (se_var 0) (sa_cons (se_var 1) sa_nil))))
    (sb_cons (ss_set 2 sc_done.nd (se_ix (se_var 1) se_int))
    (sb_cons (ss_set 3 sc_done.nd (se_ix (se_var 1) (se_neg se_int)))
    (sb_cons (ss_if (st_cmp (os_ne hr.units) (se_ix (se_var 1) se_int) se_str) (sb_cons (ss_set 4 sc_done.nd (se_call D_rights (hr.mono (by decide)) pass_onD rfl (sa_cons (se_var 0) (sa_cons (se_var 2) sa_nil))))
    (sb_one (ss_if (st_cmp (os_lt hr.units) (se_var 4) (se_var 3)) (sb_one (ss_raiseI rfl raiseDok MShort IShort (hr.mono (by decide)) bShort rfl mShort (se_var 4))) sb_nil))) sb_nil)
    (sb_one (ss_ret (se_call D_raised (hr.mono (by decide)) pass_onD rfl (sa_cons (se_var 0) (sa_cons (se_var 2) (sa_cons (se_call D_place_in_row (hr.mono (by decide)) pass_onD rfl (sa_cons (se_var 0) (sa_cons (se_var 1) sa_nil))) (sa_cons (se_var 3) sa_nil))))))))))))
def b__law_b_draw_1 : MS:=(mSet 2 (mOp oMod (mOp oAdd (mOp oAdd (mOp oMul (mVar 2) (mC (.int 69621))) (mOp oMod (mVar 3) (mC (.int 998244353)))) (mC (.int 1))) (mC (.int 1000000007))))
def m__law_b_draw : MS := (mSeqS (mIfS (toB (mOp oLt (mVar 1) (mCall cLen (mCons (mVar 0) mNil)))) (mRet (mOp oMod (mOp oIx (mVar 0) (mVar 1)) (mOp oPow (mC (.int 10)) (mC (.int 40))))) mNext)
    (mSeqS (mSet 2 (mOp oMul (mC (.int 1000003)) (mOp oAdd (mVar 1) (mC (.int 1)))))
    (mSeqS (mFor (gaName 3) (mSeq (mSl (mVar 0) mNoPart (mPart (mC (.int 7))))) b__law_b_draw_1)
    (mSeqS (mSet 2 (mOp oMod (mOp oMul (mVar 2) (mVar 2)) (mC (.int 1000000007))))
    (mSeqS (mSet 2 (mOp oMod (mOp oMul (mOp oAdd (mVar 2) (mOp oMul (mOp oMul (mC (.int 7919)) (mVar 1)) (mVar 1))) (mC (.int 48271))) (mC (.int 2147483647))))
    (mRet (mOp oDiv (mOp oMod (mOp oMul (mVar 2) (mVar 2)) (mC (.int 2147483647))) (mC (.int 8)))))))))
def F__law_b_draw : FN:=callF m__law_b_draw 4
theorem sc__law_b_draw : FnScope ["script", "k", "mixed", "cell"] ["script", "k"] (defScope s__law_b_draw):=⟨rfl,rfl,rfl,by decide +kernel,rfl,by decide +kernel,by decide +kernel⟩
theorem ok__law_b_draw {f : Addr} {fd : FuncData} (F : Fun K "_law_b_draw" "_law_b_draw" s__law_b_draw f fd) (T : Txt mg)   : FnOk P w K mg base (CXD P w) 1 f fd ["script", "k"] (spF mg 2 F__law_b_draw):=by
  refine fun_ok2 (k:=0) (m:=m__law_b_draw) F sc__law_b_draw rfl rfl rfl fun cdv A outer s H E hr=>?_
  exact (sb_cons (ss_if (st_cmp (os_lt hr.units) (se_var 1) (se_callB cs_len rfl T.b_len PySem.boot_len (sa_cons (se_var 0) sa_nil))) (sb_one (ss_ret (se_op os_mod (se_ix (se_var 0) (se_var 1)) (se_op os_pow se_int se_int)))) sb_nil)
    (sb_cons (ss_set 2 sc__law_b_draw.nd (se_op os_mul se_int (se_op os_add (se_var 1) se_int)))
    (sb_cons (ss_for PassesOwn.leaving rfl (si_seq (se_slice (se_var 0) so_none (so_some se_int))) (sg_name (i:=3) sc__law_b_draw.nd) (sb_one (ss_set 2 sc__law_b_draw.nd (se_op os_mod (se_op os_add (se_op os_add (se_op os_mul (se_var 2) se_int) (se_op os_mod (se_var 3) se_int)) se_int) se_int))))
    (sb_cons (ss_set 2 sc__law_b_draw.nd (se_op os_mod (se_op os_mul (se_var 2) (se_var 2)) se_int))
    (sb_cons (ss_set 2 sc__law_b_draw.nd (se_op os_mod (se_op os_mul (se_op os_add (se_var 2) (se_op os_mul (se_op os_mul se_int (se_var 1)) (se_var 1))) se_int) se_int))
    (sb_one (ss_ret (se_op os_div (se_op os_mod (se_op os_mul (se_var 2) (se_var 2)) se_int) se_int))))))))
def m__law_b_entry : MS := (mSeqS (mSet 1 (mOp oMod (mVar 0) (mC (.int 8))))
    (mSeqS (mSet 2 (mOp oDiv (mVar 0) (mC (.int 8))))
    (mSeqS (mIfS (toB (mOp oLt (mVar 1) (mC (.int 3)))) (mRet (mC (.int 0))) mNext)
    (mSeqS (mIfS (toB (mOp oLt (mVar 1) (mC (.int 6)))) (mRet (mOp oMod (mVar 2) (mC (.int 4)))) mNext)
    (mSeqS (mIfS (toB (mOp oEq (mVar 1) (mC (.int 6)))) (mRet (mOp oMod (mVar 2) (mC (.int 100)))) mNext)
    (mRet (mOp oMod (mVar 2) (mOp oPow (mC (.int 10)) (mC (.int 28))))))))))
def F__law_b_entry : FN:=callF m__law_b_entry 3
theorem sc__law_b_entry : FnScope ["draw", "way", "rest"] ["draw"] (defScope s__law_b_entry):=⟨rfl,rfl,rfl,by decide +kernel,rfl,by decide +kernel,by decide +kernel⟩
theorem ok__law_b_entry {f : Addr} {fd : FuncData} (F : Fun K "_law_b_entry" "_law_b_entry" s__law_b_entry f fd) (T : Txt mg)   : FnOk P w K mg base (CXD P w) 1 f fd ["draw"] (spF mg 1 F__law_b_entry):=by
  refine fun_ok2 (k:=0) (m:=m__law_b_entry) F sc__law_b_entry rfl rfl rfl fun cdv A outer s H E hr=>?_
  exact (sb_cons (ss_set 1 sc__law_b_entry.nd (se_op os_mod (se_var 0) se_int))
    (sb_cons (ss_set 2 sc__law_b_entry.nd (se_op os_div (se_var 0) se_int))
    (sb_cons (ss_if (st_cmp (os_lt hr.units) (se_var 1) se_int) (sb_one (ss_ret se_int)) sb_nil)
    (sb_cons (ss_if (st_cmp (os_lt hr.units) (se_var 1) se_int) (sb_one (ss_ret (se_op os_mod (se_var 2) se_int))) sb_nil)
    (sb_cons (ss_if (st_cmp (os_eq hr.units) (se_var 1) se_int) (sb_one (ss_ret (se_op os_mod (se_var 2) se_int))) sb_nil)
    (sb_one (ss_ret (se_op os_mod (se_var 2) (se_op os_pow se_int se_int)))))))))
def e__law_b_table_1 : ME:=(mCallF 1 F__law_b_entry (mCons (mCallF 2 F__law_b_draw (mCons (mVar 1) (mCons (mOp oAdd (mOp oAdd (mVar 2) (mOp oMul (mVar 3) (mOp oAdd (mVar 4) (mC (.int 1))))) (mVar 0)) mNil))) mNil))
def b__law_b_table_1 : MS:=(mExpr (mBM mtAppend (mVar 3) (mCons (mCall cTuple (mCons (mVal (mCompN [none,some 0,some 2,some 4,some 1] (gaName 0) (mRange1 (mCons (mOp oAdd (mVar 1) (mC (.int 1))) mNil)) mTrue e__law_b_table_1)) mNil)) mNil)))
def m__law_b_table : MS := (mSeqS (mSet 3 (mTrk (mLstN mNil)))
    (mSeqS (mFor (gaName 4) (mRange1 (mCons (mVar 1) mNil)) b__law_b_table_1)
    (mRet (mCall cTuple (mCons (mVar 3) mNil)))))
def F__law_b_table : FN:=callF m__law_b_table 5
theorem sc__law_b_table : FnScope ["script", "n", "at", "rows", "i"] ["script", "n", "at"] (defScope s__law_b_table):=⟨rfl,rfl,rfl,by decide +kernel,rfl,by decide +kernel,by decide +kernel⟩
theorem ok__law_b_table {f : Addr} {fd : FuncData} (F : Fun K "_law_b_table" "_law_b_table" s__law_b_table f fd) (T : Txt mg)  (D__law_b_entry : DefS P w K mg base 1 "_law_b_entry" 1 F__law_b_entry) (D__law_b_draw : DefS P w K mg base 1 "_law_b_draw" 2 F__law_b_draw) : FnOk P w K mg base (CXD P w) 2 f fd ["script", "n", "at"] (spF mg 3 F__law_b_table):=by
  refine fun_ok2 (k:=1) (m:=m__law_b_table) F sc__law_b_table rfl rfl rfl fun cdv A outer s H E hr=>?_
  exact (sb_cons (ss_set 3 sc__law_b_table.nd (se_trk (sn_lst sa_nil)))
    (sb_cons (ss_for PassesOwn.leaving rfl (si_range1 rfl T.b_range (sa_cons (se_var 1) sa_nil)) (sg_name (i:=4) sc__law_b_table.nd) (sb_one (ss_expr (se_append (se_var 3) (sa_cons (se_callT cs_tuple rfl T.b_tuple boot_tuple (sa_cons (se_val (sn_comp [none,some 0,some 2,some 4,some 1] ["j", "script", "at", "i", "n"] rfl (si_range1 rfl T.b_range (sa_cons (se_op os_add (se_var 1) se_int) sa_nil)) (fun _ _ _ _ _=>(sg_name (i:=0) (show (["j", "script", "at", "i", "n"] : List Str).Nodup by decide +kernel))) (fun _ _ _ _ _=>(se_call D__law_b_entry (hr.mono (by decide)) pass00D rfl (sa_cons (se_call D__law_b_draw (hr.mono (by decide)) pass00D rfl (sa_cons (se_var 1) (sa_cons (se_op os_add (se_op os_add (se_var 2) (se_op os_mul (se_var 3) (se_op os_add (se_var 4) se_int))) (se_var 0)) sa_nil))) sa_nil))) (fun _ _ _ _ _=>sts_nil) free_name)) sa_nil)) sa_nil)))))
    (sb_one (ss_ret (se_callT cs_tuple rfl T.b_tuple boot_tuple (sa_cons (se_var 3) sa_nil))))))
def b__law_b_rights_1 : MS := (mSeqS (mSet 3 (mOp oAdd (mVar 3) (mOp oIx (mOp oIx (mVar 0) (mVar 4)) (mVar 1))))
    (mIfS (toB (mOp oNe (mVar 4) (mVar 1))) (mSet 3 (mOp (oI fun a b=>.int (a - b)) (mVar 3) (mOp oIx (mOp oIx (mVar 0) (mVar 1)) (mVar 4)))) mNext))
def m__law_b_rights : MS := (mSeqS (mSet 2 (mCall cLen (mCons (mVar 0) mNil)))
    (mSeqS (mSet 3 (mC (.int 0)))
    (mSeqS (mFor (gaName 4) (mRange1 (mCons (mVar 2) mNil)) b__law_b_rights_1)
    (mRet (mOp (oI fun a b=>.int (a - b)) (mVar 3) (mOp oIx (mOp oIx (mVar 0) (mVar 1)) (mVar 2)))))))
def F__law_b_rights : FN:=callF m__law_b_rights 5
theorem sc__law_b_rights : FnScope ["table", "house", "n", "total", "other"] ["table", "house"] (defScope s__law_b_rights):=⟨rfl,rfl,rfl,by decide +kernel,rfl,by decide +kernel,by decide +kernel⟩
theorem ok__law_b_rights {f : Addr} {fd : FuncData} (F : Fun K "_law_b_rights" "_law_b_rights" s__law_b_rights f fd) (T : Txt mg)   : FnOk P w K mg base (CXD P w) 1 f fd ["table", "house"] (spF mg 2 F__law_b_rights):=by
  refine fun_ok2 (k:=0) (m:=m__law_b_rights) F sc__law_b_rights rfl rfl rfl fun cdv A outer s H E hr=>?_
  exact (sb_cons (ss_set 2 sc__law_b_rights.nd (se_callB cs_len rfl T.b_len PySem.boot_len (sa_cons (se_var 0) sa_nil)))
    (sb_cons (ss_set 3 sc__law_b_rights.nd se_int)
    (sb_cons (ss_for PassesOwn.leaving rfl (si_range1 rfl T.b_range (sa_cons (se_var 2) sa_nil)) (sg_name (i:=4) sc__law_b_rights.nd) (sb_cons (ss_set 3 sc__law_b_rights.nd (se_op os_add (se_var 3) (se_ix (se_ix (se_var 0) (se_var 4)) (se_var 1))))
    (sb_one (ss_if (st_cmp (os_ne hr.units) (se_var 4) (se_var 1)) (sb_one (ss_set 3 sc__law_b_rights.nd (se_op os_sub (se_var 3) (se_ix (se_ix (se_var 0) (se_var 1)) (se_var 4))))) sb_nil))))
    (sb_one (ss_ret (se_op os_sub (se_var 3) (se_ix (se_ix (se_var 0) (se_var 1)) (se_var 2))))))))
structure Nms (mg : Str -> Option Value) (c : Nat -> Addr) : Prop where
  m0 : mg "WharfError" = some (.ref (c 0))
  m1 : mg "NoTable" = some (.ref (c 1))
  m2 : mg "NoHouse" = some (.ref (c 2))
  m3 : mg "NoDeed" = some (.ref (c 3))
  m4 : mg "NoLetter" = some (.ref (c 4))
  m5 : mg "NoStand" = some (.ref (c 5))
  m6 : mg "NoRoad" = some (.ref (c 6))
  m7 : mg "NoPlan" = some (.ref (c 7))
  m8 : mg "NoBook" = some (.ref (c 8))
  m9 : mg "NoManner" = some (.ref (c 9))
  m10 : mg "TooMany" = some (.ref (c 10))
  m11 : mg "NoText" = some (.ref (c 11))
  m12 : mg "NoRow" = some (.ref (c 12))
  m13 : mg "NoName" = some (.ref (c 13))
  m14 : mg "Short" = some (.ref (c 14))
  ve : mg "ValueError" = none
  an : mg "any" = none
  isi : mg "isinstance" = none
structure TgtS (K : PySem.W.Frag) (c : Nat -> Addr) (t : Nat) : Prop where
  xc : XCls K (c t)
  ve : PySem.W.kitOne K (.ref (c t)) (.type "ValueError") = some true
  ex : PySem.W.exmOne K (.ref (c t)) (.ref (c 0)) = some true
  k : ∀ i,1 <= i -> i <= 14 -> PySem.W.kitOne K (.ref (c t)) (.ref (c i)) = some (decide (i = t))
theorem boot_ValueError : bootBuiltins "ValueError" = some (.type "ValueError"):=by decide +kernel
theorem keepE {H : Hp} {e p : Addr} {v o : HO} (h : H e = some v) (hp : H p = none) : upd H p o e = some v:=by
  rw [upd_ne fun z=>by rw [z,hp] at h; cases h]; exact h
theorem sqk_of {K : PySem.W.Frag} {H : Hp} {a : Addr} {xs : List V} (h : H a = some (.lst xs)) : SqK K false H a xs:=by
  unfold SqK; rw [if_neg (by decide)]; exact .inl (.inl h)
theorem noB (bs : List Bool) (j : Nat) (h : (bs.take j).all (fun b=>!b) = true) (hl : j <= bs.length) : ∀ m,m < j -> bs[m]? = some false:=fun m hm=>by
  have hb : m < bs.length:=by omega
  have:=List.all_eq_true.mp h (bs[m]) (List.mem_take_iff_getElem.mpr ⟨m,by omega,rfl⟩)
  rw [List.getElem?_eq_getElem hb]
  cases q : bs[m] with
  | false=>rfl
  | true=>rw [q] at this; cases this
def F__law_b_told : FN:=fun ps st=>match F_done ps st with
  | .ok v st1=>.ok v st1
  | .exc x st1=>if x.cls = "NoDeed" then .ok (.str "deed") st1 else if x.cls = "NoHouse" then .ok (.str "house") st1 else if x.cls = "Short" then .ok (.str "short") st1 else .stuck
  | .stuck=>.stuck
theorem sc__law_b_told : FnScope ["table", "deed", "told", "e", "others", "known"] ["table", "deed"] (defScope s__law_b_told):=⟨rfl,rfl,rfl,by decide +kernel,rfl,by decide +kernel,by decide +kernel⟩
theorem ok__law_b_told {f : Addr} {fd : FuncData} {c : Nat -> Addr} (F : Fun K "_law_b_told" "_law_b_told" s__law_b_told f fd) (T : Txt mg) (Nm : Nms mg c) (T3 : TgtS K c 3) (T2 : TgtS K c 2) (T14 : TgtS K c 14) (D_done : DefS P w K mg base 5 "done" 2 F_done) : FnOk P w K mg base (CXD P w) 6 f fd ["table", "deed"] (spF mg 2 F__law_b_told):=by
  obtain ⟨fR,fdR,psR,FR,mR,kR,bR,lR⟩:=D_done.ex
  refine Fun.okD F sc__law_b_told (fun vs H Q E h=>h.1) fun cdv A outer s H vs Q E hr hsp=>?_
  obtain ⟨hl,ρ,st0,pvs,R,rl,hA⟩:=hsp
  refine ⟨_,pss_cons (ps_set (i:=2) sc__law_b_told.nd rfl (Or.inl rfl) (pe_str))
      (pss_cons (ps_tryADa FR hr mR kR bR (pa_cons (pv 0) (pa_cons (pv 1) pa_nil)) sc__law_b_told.nd (i:=3) rfl rfl (j:=2) rfl rfl (fun e=>pss_cons (ps_set (i:=4) sc__law_b_told.nd rfl (Or.inl rfl) (pe_lst (pa_cons (pe_callB (call_isxD K) (by rfl) Nm.isi boot_isinstance (pa_cons (pv 3) (pa_cons (pe_glob (v:=.ref (c 1)) (by rfl) Nm.m1 rfl) pa_nil))) (pa_cons (pe_callB (call_isxD K) (by rfl) Nm.isi boot_isinstance (pa_cons (pv 3) (pa_cons (pe_glob (v:=.ref (c 4)) (by rfl) Nm.m4 rfl) pa_nil))) (pa_cons (pe_callB (call_isxD K) (by rfl) Nm.isi boot_isinstance (pa_cons (pv 3) (pa_cons (pe_glob (v:=.ref (c 5)) (by rfl) Nm.m5 rfl) pa_nil))) (pa_cons (pe_callB (call_isxD K) (by rfl) Nm.isi boot_isinstance (pa_cons (pv 3) (pa_cons (pe_glob (v:=.ref (c 6)) (by rfl) Nm.m6 rfl) pa_nil))) pa_nil))))))
        (pss_cons (ps_set (i:=4) sc__law_b_told.nd rfl (Or.inl rfl) (pe_op op_cat (pv 4) (pe_lst (pa_cons (pe_callB (call_isxD K) (by rfl) Nm.isi boot_isinstance (pa_cons (pv 3) (pa_cons (pe_glob (v:=.ref (c 7)) (by rfl) Nm.m7 rfl) pa_nil))) (pa_cons (pe_callB (call_isxD K) (by rfl) Nm.isi boot_isinstance (pa_cons (pv 3) (pa_cons (pe_glob (v:=.ref (c 8)) (by rfl) Nm.m8 rfl) pa_nil))) (pa_cons (pe_callB (call_isxD K) (by rfl) Nm.isi boot_isinstance (pa_cons (pv 3) (pa_cons (pe_glob (v:=.ref (c 9)) (by rfl) Nm.m9 rfl) pa_nil))) pa_nil))))))
        (pss_cons (ps_set (i:=4) sc__law_b_told.nd rfl (Or.inl rfl) (pe_op op_cat (pv 4) (pe_lst (pa_cons (pe_callB (call_isxD K) (by rfl) Nm.isi boot_isinstance (pa_cons (pv 3) (pa_cons (pe_glob (v:=.ref (c 10)) (by rfl) Nm.m10 rfl) pa_nil))) (pa_cons (pe_callB (call_isxD K) (by rfl) Nm.isi boot_isinstance (pa_cons (pv 3) (pa_cons (pe_glob (v:=.ref (c 11)) (by rfl) Nm.m11 rfl) pa_nil))) (pa_cons (pe_callB (call_isxD K) (by rfl) Nm.isi boot_isinstance (pa_cons (pv 3) (pa_cons (pe_glob (v:=.ref (c 12)) (by rfl) Nm.m12 rfl) pa_nil))) (pa_cons (pe_callB (call_isxD K) (by rfl) Nm.isi boot_isinstance (pa_cons (pv 3) (pa_cons (pe_glob (v:=.ref (c 13)) (by rfl) Nm.m13 rfl) pa_nil))) pa_nil)))))))
        (pss_cons (ps_set (i:=5) sc__law_b_told.nd rfl (Or.inl rfl) (pe_lst (pa_cons (pe_callB (call_isxD K) (by rfl) Nm.isi boot_isinstance (pa_cons (pv 3) (pa_cons (pe_glob (v:=.ref (c 3)) (by rfl) Nm.m3 rfl) pa_nil))) (pa_cons (pe_callB (call_isxD K) (by rfl) Nm.isi boot_isinstance (pa_cons (pv 3) (pa_cons (pe_glob (v:=.ref (c 2)) (by rfl) Nm.m2 rfl) pa_nil))) (pa_cons (pe_callB (call_isxD K) (by rfl) Nm.isi boot_isinstance (pa_cons (pv 3) (pa_cons (pe_glob (v:=.ref (c 14)) (by rfl) Nm.m14 rfl) pa_nil))) pa_nil)))))
        (pss_cons (ps_set (i:=2) sc__law_b_told.nd rfl (Or.inl rfl) (pe_str))
        (pss_one (ps_if (PW.pt (pw_and (pt_not (pt_val (pe_callB (call_anyH e rfl) (by rfl) Nm.an boot_any (pa_cons (pv 4) pa_nil)))) (pw_and (pt_cmpR op_eq (pe_bm PySem.F.plainAttrs_list PySem.F.slot_list_count PySem.F.type_list_count mt_countB (pv 5) (pa_cons pe_bl pa_nil)) pe_int (nomark _)) (pw_and1 (pt_val (pe_callB (call_isxD K) (by rfl) Nm.isi boot_isinstance (pa_cons (pv 3) (pa_cons (pe_bltn (v:=.ty "ValueError") (by rfl) Nm.ve boot_ValueError rfl) pa_nil)))))))) (pss_one (ps_set (i:=2) sc__law_b_told.nd rfl (Or.inl rfl) (pe_ix ix_list (pe_lst (pa_cons pe_str (pa_cons pe_str (pa_cons pe_str pa_nil)))) (pe_bm PySem.F.plainAttrs_list PySem.F.slot_list_index PySem.F.type_list_index mt_indexB (pv 5) (pa_cons pe_bl pa_nil)) (fun _ _=>rfl)))) pss_nil))))))) Nm.m0)
      (pss_one (ps_ret (pv 2)))),?_⟩
  match vs,hl with
  | [v0,v1],_=>
  refine ⟨_,rfl,_,rfl,  rfl,ρ,st0,pvs,R,rl,?_⟩
  unfold F__law_b_told at hA
  cases hr : F_done pvs st0 with
  | ok a st1=>
    rw [hr] at hA
    exact fun H1 ρ1 x1 R1 v r=>⟨_,rfl,hA H1 ρ1 x1 R1 _ r⟩
  | stuck=>rw [hr] at hA; exact hA.elim
  | exc x st1=>
    rw [hr] at hA
    dsimp only at hA
    by_cases hx3 : x.cls = "NoDeed"
    · rw [if_pos hx3] at hA
      intro C dv H1 ρ1 hm x1 R1 fs
      rw [hx3,Nm.m3] at hm
      cases hm
      refine ⟨_,rfl,T3.ex,fun e he=>?_⟩
      obtain ⟨H2,e2⟩ : ∃ H2,upd H1 e (.ext (IsXD e (c 3) dv)) = H2:=⟨_,rfl⟩
      have hE2 : H2 e = some (.ext (IsXD e (c 3) dv)):=e2 ▸ upd_same
      have x2 : Ext H1 ρ1 H2 ρ1:=e2 ▸ Ext.add he
      have R2 : Rel H2 ρ1 st1:=e2 ▸ R1.add he
      rw [e2]
      refine ⟨_,rfl,e,_,_,_,_,false,rfl,rfl,hE2,T3.xc,T3.k 1 (by decide) (by decide),?_⟩
      refine ⟨_,rfl,e,_,_,_,_,false,rfl,rfl,hE2,T3.xc,T3.k 4 (by decide) (by decide),?_⟩
      refine ⟨_,rfl,e,_,_,_,_,false,rfl,rfl,hE2,T3.xc,T3.k 5 (by decide) (by decide),?_⟩
      refine ⟨_,rfl,e,_,_,_,_,false,rfl,rfl,hE2,T3.xc,T3.k 6 (by decide) (by decide),?_⟩
      refine ⟨by decide,fun p1 hp1=>?_⟩
      obtain ⟨H3,e3⟩ : ∃ H3,upd H2 p1 (.lst [.bl false,.bl false,.bl false,.bl false]) = H3:=⟨_,rfl⟩
      have hE3 : H3 e = some (.ext (IsXD e (c 3) dv)):=e3 ▸ keepE hE2 hp1
      have x3 : Ext H1 ρ1 H3 ρ1:=e3 ▸ x2.trans (Ext.add hp1)
      have R3 : Rel H3 ρ1 st1:=e3 ▸ R2.add hp1
      have np1 : H3 p1 = some (.lst [.bl false,.bl false,.bl false,.bl false]):=e3 ▸ upd_same
      rw [show upd H2 p1 (.lst (_)) = H3 from e3]
      refine ⟨_,rfl,?_⟩
      refine ⟨_,rfl,e,_,_,_,_,false,rfl,rfl,hE3,T3.xc,T3.k 7 (by decide) (by decide),?_⟩
      refine ⟨_,rfl,e,_,_,_,_,false,rfl,rfl,hE3,T3.xc,T3.k 8 (by decide) (by decide),?_⟩
      refine ⟨_,rfl,e,_,_,_,_,false,rfl,rfl,hE3,T3.xc,T3.k 9 (by decide) (by decide),?_⟩
      refine ⟨by decide,fun p2 hp2=>?_⟩
      obtain ⟨H4,e4⟩ : ∃ H4,upd H3 p2 (.lst [.bl false,.bl false,.bl false]) = H4:=⟨_,rfl⟩
      have hE4 : H4 e = some (.ext (IsXD e (c 3) dv)):=e4 ▸ keepE hE3 hp2
      have x4 : Ext H1 ρ1 H4 ρ1:=e4 ▸ x3.trans (Ext.add hp2)
      have R4 : Rel H4 ρ1 st1:=e4 ▸ R3.add hp2
      have np2 : H4 p2 = some (.lst [.bl false,.bl false,.bl false]):=e4 ▸ upd_same
      have kp1_4 : H4 p1 = some (.lst [.bl false,.bl false,.bl false,.bl false]):=e4 ▸ keepE np1 hp2
      rw [show upd H3 p2 (.lst (_)) = H4 from e4]
      refine ⟨_,_,_,_,rfl,rfl,kp1_4,np2,by decide,fun p3 hp3=>?_⟩
      obtain ⟨H5,e5⟩ : ∃ H5,upd H4 p3 (.lst [.bl false,.bl false,.bl false,.bl false,.bl false,.bl false,.bl false]) = H5:=⟨_,rfl⟩
      have hE5 : H5 e = some (.ext (IsXD e (c 3) dv)):=e5 ▸ keepE hE4 hp3
      have x5 : Ext H1 ρ1 H5 ρ1:=e5 ▸ x4.trans (Ext.add hp3)
      have R5 : Rel H5 ρ1 st1:=e5 ▸ R4.add hp3
      have np3 : H5 p3 = some (.lst [.bl false,.bl false,.bl false,.bl false,.bl false,.bl false,.bl false]):=e5 ▸ upd_same
      have kp1_5 : H5 p1 = some (.lst [.bl false,.bl false,.bl false,.bl false]):=e5 ▸ keepE kp1_4 hp3
      rw [show upd H4 p3 (.lst ([.bl false,.bl false,.bl false,.bl false] ++ [.bl false,.bl false,.bl false])) = H5 from e5]
      refine ⟨_,rfl,?_⟩
      refine ⟨_,rfl,e,_,_,_,_,false,rfl,rfl,hE5,T3.xc,T3.k 10 (by decide) (by decide),?_⟩
      refine ⟨_,rfl,e,_,_,_,_,false,rfl,rfl,hE5,T3.xc,T3.k 11 (by decide) (by decide),?_⟩
      refine ⟨_,rfl,e,_,_,_,_,false,rfl,rfl,hE5,T3.xc,T3.k 12 (by decide) (by decide),?_⟩
      refine ⟨_,rfl,e,_,_,_,_,false,rfl,rfl,hE5,T3.xc,T3.k 13 (by decide) (by decide),?_⟩
      refine ⟨by decide,fun p4 hp4=>?_⟩
      obtain ⟨H6,e6⟩ : ∃ H6,upd H5 p4 (.lst [.bl false,.bl false,.bl false,.bl false]) = H6:=⟨_,rfl⟩
      have hE6 : H6 e = some (.ext (IsXD e (c 3) dv)):=e6 ▸ keepE hE5 hp4
      have x6 : Ext H1 ρ1 H6 ρ1:=e6 ▸ x5.trans (Ext.add hp4)
      have R6 : Rel H6 ρ1 st1:=e6 ▸ R5.add hp4
      have np4 : H6 p4 = some (.lst [.bl false,.bl false,.bl false,.bl false]):=e6 ▸ upd_same
      have kp3_6 : H6 p3 = some (.lst [.bl false,.bl false,.bl false,.bl false,.bl false,.bl false,.bl false]):=e6 ▸ keepE np3 hp4
      rw [show upd H5 p4 (.lst (_)) = H6 from e6]
      refine ⟨_,_,_,_,rfl,rfl,kp3_6,np4,by decide,fun p5 hp5=>?_⟩
      obtain ⟨H7,e7⟩ : ∃ H7,upd H6 p5 (.lst [.bl false,.bl false,.bl false,.bl false,.bl false,.bl false,.bl false,.bl false,.bl false,.bl false,.bl false]) = H7:=⟨_,rfl⟩
      have hE7 : H7 e = some (.ext (IsXD e (c 3) dv)):=e7 ▸ keepE hE6 hp5
      have x7 : Ext H1 ρ1 H7 ρ1:=e7 ▸ x6.trans (Ext.add hp5)
      have R7 : Rel H7 ρ1 st1:=e7 ▸ R6.add hp5
      have np5 : H7 p5 = some (.lst [.bl false,.bl false,.bl false,.bl false,.bl false,.bl false,.bl false,.bl false,.bl false,.bl false,.bl false]):=e7 ▸ upd_same
      have kp3_7 : H7 p3 = some (.lst [.bl false,.bl false,.bl false,.bl false,.bl false,.bl false,.bl false]):=e7 ▸ keepE kp3_6 hp5
      rw [show upd H6 p5 (.lst ([.bl false,.bl false,.bl false,.bl false,.bl false,.bl false,.bl false] ++ [.bl false,.bl false,.bl false,.bl false])) = H7 from e7]
      refine ⟨_,rfl,e,_,_,_,_,true,rfl,rfl,hE7,T3.xc,T3.k 3 (by decide) (by decide),?_⟩
      refine ⟨_,rfl,e,_,_,_,_,false,rfl,rfl,hE7,T3.xc,T3.k 2 (by decide) (by decide),?_⟩
      refine ⟨_,rfl,e,_,_,_,_,false,rfl,rfl,hE7,T3.xc,T3.k 14 (by decide) (by decide),?_⟩
      refine ⟨by decide,fun p6 hp6=>?_⟩
      obtain ⟨H8,e8⟩ : ∃ H8,upd H7 p6 (.lst [.bl true,.bl false,.bl false]) = H8:=⟨_,rfl⟩
      have hE8 : H8 e = some (.ext (IsXD e (c 3) dv)):=e8 ▸ keepE hE7 hp6
      have x8 : Ext H1 ρ1 H8 ρ1:=e8 ▸ x7.trans (Ext.add hp6)
      have R8 : Rel H8 ρ1 st1:=e8 ▸ R7.add hp6
      have np6 : H8 p6 = some (.lst [.bl true,.bl false,.bl false]):=e8 ▸ upd_same
      have kp5_8 : H8 p5 = some (.lst [.bl false,.bl false,.bl false,.bl false,.bl false,.bl false,.bl false,.bl false,.bl false,.bl false,.bl false]):=e8 ▸ keepE np5 hp6
      rw [show upd H7 p6 (.lst (_)) = H8 from e8]
      refine ⟨_,rfl,_,_,_,[false,false,false,false,false,false,false,false,false,false,false],rfl,sqk_of kp5_8,hE8,false,rfl,iteT ?_⟩
      refine ⟨_,rfl,.inl ⟨rfl,_,.inl (.inl np6)⟩,_,[true,false,false],rfl,rfl,np6,rfl,_,rfl,iteT ?_⟩
      refine ⟨_,rfl,e,_,_,_,_,true,rfl,rfl,hE8,T3.xc,T3.ve,_,rfl,iteT ?_⟩
      refine ⟨by decide,fun p7 hp7=>?_⟩
      obtain ⟨H9,e9⟩ : ∃ H9,upd H8 p7 (.lst [.str "deed",.str "house",.str "short"]) = H9:=⟨_,rfl⟩
      have hE9 : H9 e = some (.ext (IsXD e (c 3) dv)):=e9 ▸ keepE hE8 hp7
      have x9 : Ext H1 ρ1 H9 ρ1:=e9 ▸ x8.trans (Ext.add hp7)
      have R9 : Rel H9 ρ1 st1:=e9 ▸ R8.add hp7
      have np7 : H9 p7 = some (.lst [.str "deed",.str "house",.str "short"]):=e9 ▸ upd_same
      have kp5_9 : H9 p5 = some (.lst [.bl false,.bl false,.bl false,.bl false,.bl false,.bl false,.bl false,.bl false,.bl false,.bl false,.bl false]):=e9 ▸ keepE kp5_8 hp7
      have kp6_9 : H9 p6 = some (.lst [.bl true,.bl false,.bl false]):=e9 ▸ keepE np6 hp7
      rw [show upd H8 p7 (.lst (_)) = H9 from e9]
      refine ⟨_,rfl,.inl ⟨rfl,_,.inl (.inl kp6_9)⟩,_,[true,false,false],0,rfl,rfl,kp6_9,by decide,rfl,noB _ _ (by decide) (by decide),?_⟩
      refine ⟨_,_,_,_,rfl,rfl,.inl (.inl np7),rfl,?_⟩
      exact ⟨_,rfl,hA _ _ (x1.trans x9) R9 _ rfl⟩
    · rw [if_neg hx3] at hA
      by_cases hx2 : x.cls = "NoHouse"
      · rw [if_pos hx2] at hA
        intro C dv H1 ρ1 hm x1 R1 fs
        rw [hx2,Nm.m2] at hm
        cases hm
        refine ⟨_,rfl,T2.ex,fun e he=>?_⟩
        obtain ⟨H2,e2⟩ : ∃ H2,upd H1 e (.ext (IsXD e (c 2) dv)) = H2:=⟨_,rfl⟩
        have hE2 : H2 e = some (.ext (IsXD e (c 2) dv)):=e2 ▸ upd_same
        have x2 : Ext H1 ρ1 H2 ρ1:=e2 ▸ Ext.add he
        have R2 : Rel H2 ρ1 st1:=e2 ▸ R1.add he
        rw [e2]
        refine ⟨_,rfl,e,_,_,_,_,false,rfl,rfl,hE2,T2.xc,T2.k 1 (by decide) (by decide),?_⟩
        refine ⟨_,rfl,e,_,_,_,_,false,rfl,rfl,hE2,T2.xc,T2.k 4 (by decide) (by decide),?_⟩
        refine ⟨_,rfl,e,_,_,_,_,false,rfl,rfl,hE2,T2.xc,T2.k 5 (by decide) (by decide),?_⟩
        refine ⟨_,rfl,e,_,_,_,_,false,rfl,rfl,hE2,T2.xc,T2.k 6 (by decide) (by decide),?_⟩
        refine ⟨by decide,fun p1 hp1=>?_⟩
        obtain ⟨H3,e3⟩ : ∃ H3,upd H2 p1 (.lst [.bl false,.bl false,.bl false,.bl false]) = H3:=⟨_,rfl⟩
        have hE3 : H3 e = some (.ext (IsXD e (c 2) dv)):=e3 ▸ keepE hE2 hp1
        have x3 : Ext H1 ρ1 H3 ρ1:=e3 ▸ x2.trans (Ext.add hp1)
        have R3 : Rel H3 ρ1 st1:=e3 ▸ R2.add hp1
        have np1 : H3 p1 = some (.lst [.bl false,.bl false,.bl false,.bl false]):=e3 ▸ upd_same
        rw [show upd H2 p1 (.lst (_)) = H3 from e3]
        refine ⟨_,rfl,?_⟩
        refine ⟨_,rfl,e,_,_,_,_,false,rfl,rfl,hE3,T2.xc,T2.k 7 (by decide) (by decide),?_⟩
        refine ⟨_,rfl,e,_,_,_,_,false,rfl,rfl,hE3,T2.xc,T2.k 8 (by decide) (by decide),?_⟩
        refine ⟨_,rfl,e,_,_,_,_,false,rfl,rfl,hE3,T2.xc,T2.k 9 (by decide) (by decide),?_⟩
        refine ⟨by decide,fun p2 hp2=>?_⟩
        obtain ⟨H4,e4⟩ : ∃ H4,upd H3 p2 (.lst [.bl false,.bl false,.bl false]) = H4:=⟨_,rfl⟩
        have hE4 : H4 e = some (.ext (IsXD e (c 2) dv)):=e4 ▸ keepE hE3 hp2
        have x4 : Ext H1 ρ1 H4 ρ1:=e4 ▸ x3.trans (Ext.add hp2)
        have R4 : Rel H4 ρ1 st1:=e4 ▸ R3.add hp2
        have np2 : H4 p2 = some (.lst [.bl false,.bl false,.bl false]):=e4 ▸ upd_same
        have kp1_4 : H4 p1 = some (.lst [.bl false,.bl false,.bl false,.bl false]):=e4 ▸ keepE np1 hp2
        rw [show upd H3 p2 (.lst (_)) = H4 from e4]
        refine ⟨_,_,_,_,rfl,rfl,kp1_4,np2,by decide,fun p3 hp3=>?_⟩
        obtain ⟨H5,e5⟩ : ∃ H5,upd H4 p3 (.lst [.bl false,.bl false,.bl false,.bl false,.bl false,.bl false,.bl false]) = H5:=⟨_,rfl⟩
        have hE5 : H5 e = some (.ext (IsXD e (c 2) dv)):=e5 ▸ keepE hE4 hp3
        have x5 : Ext H1 ρ1 H5 ρ1:=e5 ▸ x4.trans (Ext.add hp3)
        have R5 : Rel H5 ρ1 st1:=e5 ▸ R4.add hp3
        have np3 : H5 p3 = some (.lst [.bl false,.bl false,.bl false,.bl false,.bl false,.bl false,.bl false]):=e5 ▸ upd_same
        have kp1_5 : H5 p1 = some (.lst [.bl false,.bl false,.bl false,.bl false]):=e5 ▸ keepE kp1_4 hp3
        rw [show upd H4 p3 (.lst ([.bl false,.bl false,.bl false,.bl false] ++ [.bl false,.bl false,.bl false])) = H5 from e5]
        refine ⟨_,rfl,?_⟩
        refine ⟨_,rfl,e,_,_,_,_,false,rfl,rfl,hE5,T2.xc,T2.k 10 (by decide) (by decide),?_⟩
        refine ⟨_,rfl,e,_,_,_,_,false,rfl,rfl,hE5,T2.xc,T2.k 11 (by decide) (by decide),?_⟩
        refine ⟨_,rfl,e,_,_,_,_,false,rfl,rfl,hE5,T2.xc,T2.k 12 (by decide) (by decide),?_⟩
        refine ⟨_,rfl,e,_,_,_,_,false,rfl,rfl,hE5,T2.xc,T2.k 13 (by decide) (by decide),?_⟩
        refine ⟨by decide,fun p4 hp4=>?_⟩
        obtain ⟨H6,e6⟩ : ∃ H6,upd H5 p4 (.lst [.bl false,.bl false,.bl false,.bl false]) = H6:=⟨_,rfl⟩
        have hE6 : H6 e = some (.ext (IsXD e (c 2) dv)):=e6 ▸ keepE hE5 hp4
        have x6 : Ext H1 ρ1 H6 ρ1:=e6 ▸ x5.trans (Ext.add hp4)
        have R6 : Rel H6 ρ1 st1:=e6 ▸ R5.add hp4
        have np4 : H6 p4 = some (.lst [.bl false,.bl false,.bl false,.bl false]):=e6 ▸ upd_same
        have kp3_6 : H6 p3 = some (.lst [.bl false,.bl false,.bl false,.bl false,.bl false,.bl false,.bl false]):=e6 ▸ keepE np3 hp4
        rw [show upd H5 p4 (.lst (_)) = H6 from e6]
        refine ⟨_,_,_,_,rfl,rfl,kp3_6,np4,by decide,fun p5 hp5=>?_⟩
        obtain ⟨H7,e7⟩ : ∃ H7,upd H6 p5 (.lst [.bl false,.bl false,.bl false,.bl false,.bl false,.bl false,.bl false,.bl false,.bl false,.bl false,.bl false]) = H7:=⟨_,rfl⟩
        have hE7 : H7 e = some (.ext (IsXD e (c 2) dv)):=e7 ▸ keepE hE6 hp5
        have x7 : Ext H1 ρ1 H7 ρ1:=e7 ▸ x6.trans (Ext.add hp5)
        have R7 : Rel H7 ρ1 st1:=e7 ▸ R6.add hp5
        have np5 : H7 p5 = some (.lst [.bl false,.bl false,.bl false,.bl false,.bl false,.bl false,.bl false,.bl false,.bl false,.bl false,.bl false]):=e7 ▸ upd_same
        have kp3_7 : H7 p3 = some (.lst [.bl false,.bl false,.bl false,.bl false,.bl false,.bl false,.bl false]):=e7 ▸ keepE kp3_6 hp5
        rw [show upd H6 p5 (.lst ([.bl false,.bl false,.bl false,.bl false,.bl false,.bl false,.bl false] ++ [.bl false,.bl false,.bl false,.bl false])) = H7 from e7]
        refine ⟨_,rfl,e,_,_,_,_,false,rfl,rfl,hE7,T2.xc,T2.k 3 (by decide) (by decide),?_⟩
        refine ⟨_,rfl,e,_,_,_,_,true,rfl,rfl,hE7,T2.xc,T2.k 2 (by decide) (by decide),?_⟩
        refine ⟨_,rfl,e,_,_,_,_,false,rfl,rfl,hE7,T2.xc,T2.k 14 (by decide) (by decide),?_⟩
        refine ⟨by decide,fun p6 hp6=>?_⟩
        obtain ⟨H8,e8⟩ : ∃ H8,upd H7 p6 (.lst [.bl false,.bl true,.bl false]) = H8:=⟨_,rfl⟩
        have hE8 : H8 e = some (.ext (IsXD e (c 2) dv)):=e8 ▸ keepE hE7 hp6
        have x8 : Ext H1 ρ1 H8 ρ1:=e8 ▸ x7.trans (Ext.add hp6)
        have R8 : Rel H8 ρ1 st1:=e8 ▸ R7.add hp6
        have np6 : H8 p6 = some (.lst [.bl false,.bl true,.bl false]):=e8 ▸ upd_same
        have kp5_8 : H8 p5 = some (.lst [.bl false,.bl false,.bl false,.bl false,.bl false,.bl false,.bl false,.bl false,.bl false,.bl false,.bl false]):=e8 ▸ keepE np5 hp6
        rw [show upd H7 p6 (.lst (_)) = H8 from e8]
        refine ⟨_,rfl,_,_,_,[false,false,false,false,false,false,false,false,false,false,false],rfl,sqk_of kp5_8,hE8,false,rfl,iteT ?_⟩
        refine ⟨_,rfl,.inl ⟨rfl,_,.inl (.inl np6)⟩,_,[false,true,false],rfl,rfl,np6,rfl,_,rfl,iteT ?_⟩
        refine ⟨_,rfl,e,_,_,_,_,true,rfl,rfl,hE8,T2.xc,T2.ve,_,rfl,iteT ?_⟩
        refine ⟨by decide,fun p7 hp7=>?_⟩
        obtain ⟨H9,e9⟩ : ∃ H9,upd H8 p7 (.lst [.str "deed",.str "house",.str "short"]) = H9:=⟨_,rfl⟩
        have hE9 : H9 e = some (.ext (IsXD e (c 2) dv)):=e9 ▸ keepE hE8 hp7
        have x9 : Ext H1 ρ1 H9 ρ1:=e9 ▸ x8.trans (Ext.add hp7)
        have R9 : Rel H9 ρ1 st1:=e9 ▸ R8.add hp7
        have np7 : H9 p7 = some (.lst [.str "deed",.str "house",.str "short"]):=e9 ▸ upd_same
        have kp5_9 : H9 p5 = some (.lst [.bl false,.bl false,.bl false,.bl false,.bl false,.bl false,.bl false,.bl false,.bl false,.bl false,.bl false]):=e9 ▸ keepE kp5_8 hp7
        have kp6_9 : H9 p6 = some (.lst [.bl false,.bl true,.bl false]):=e9 ▸ keepE np6 hp7
        rw [show upd H8 p7 (.lst (_)) = H9 from e9]
        refine ⟨_,rfl,.inl ⟨rfl,_,.inl (.inl kp6_9)⟩,_,[false,true,false],1,rfl,rfl,kp6_9,by decide,rfl,noB _ _ (by decide) (by decide),?_⟩
        refine ⟨_,_,_,_,rfl,rfl,.inl (.inl np7),rfl,?_⟩
        exact ⟨_,rfl,hA _ _ (x1.trans x9) R9 _ rfl⟩
      · rw [if_neg hx2] at hA
        by_cases hx14 : x.cls = "Short"
        · rw [if_pos hx14] at hA
          intro C dv H1 ρ1 hm x1 R1 fs
          rw [hx14,Nm.m14] at hm
          cases hm
          refine ⟨_,rfl,T14.ex,fun e he=>?_⟩
          obtain ⟨H2,e2⟩ : ∃ H2,upd H1 e (.ext (IsXD e (c 14) dv)) = H2:=⟨_,rfl⟩
          have hE2 : H2 e = some (.ext (IsXD e (c 14) dv)):=e2 ▸ upd_same
          have x2 : Ext H1 ρ1 H2 ρ1:=e2 ▸ Ext.add he
          have R2 : Rel H2 ρ1 st1:=e2 ▸ R1.add he
          rw [e2]
          refine ⟨_,rfl,e,_,_,_,_,false,rfl,rfl,hE2,T14.xc,T14.k 1 (by decide) (by decide),?_⟩
          refine ⟨_,rfl,e,_,_,_,_,false,rfl,rfl,hE2,T14.xc,T14.k 4 (by decide) (by decide),?_⟩
          refine ⟨_,rfl,e,_,_,_,_,false,rfl,rfl,hE2,T14.xc,T14.k 5 (by decide) (by decide),?_⟩
          refine ⟨_,rfl,e,_,_,_,_,false,rfl,rfl,hE2,T14.xc,T14.k 6 (by decide) (by decide),?_⟩
          refine ⟨by decide,fun p1 hp1=>?_⟩
          obtain ⟨H3,e3⟩ : ∃ H3,upd H2 p1 (.lst [.bl false,.bl false,.bl false,.bl false]) = H3:=⟨_,rfl⟩
          have hE3 : H3 e = some (.ext (IsXD e (c 14) dv)):=e3 ▸ keepE hE2 hp1
          have x3 : Ext H1 ρ1 H3 ρ1:=e3 ▸ x2.trans (Ext.add hp1)
          have R3 : Rel H3 ρ1 st1:=e3 ▸ R2.add hp1
          have np1 : H3 p1 = some (.lst [.bl false,.bl false,.bl false,.bl false]):=e3 ▸ upd_same
          rw [show upd H2 p1 (.lst (_)) = H3 from e3]
          refine ⟨_,rfl,?_⟩
          refine ⟨_,rfl,e,_,_,_,_,false,rfl,rfl,hE3,T14.xc,T14.k 7 (by decide) (by decide),?_⟩
          refine ⟨_,rfl,e,_,_,_,_,false,rfl,rfl,hE3,T14.xc,T14.k 8 (by decide) (by decide),?_⟩
          refine ⟨_,rfl,e,_,_,_,_,false,rfl,rfl,hE3,T14.xc,T14.k 9 (by decide) (by decide),?_⟩
          refine ⟨by decide,fun p2 hp2=>?_⟩
          obtain ⟨H4,e4⟩ : ∃ H4,upd H3 p2 (.lst [.bl false,.bl false,.bl false]) = H4:=⟨_,rfl⟩
          have hE4 : H4 e = some (.ext (IsXD e (c 14) dv)):=e4 ▸ keepE hE3 hp2
          have x4 : Ext H1 ρ1 H4 ρ1:=e4 ▸ x3.trans (Ext.add hp2)
          have R4 : Rel H4 ρ1 st1:=e4 ▸ R3.add hp2
          have np2 : H4 p2 = some (.lst [.bl false,.bl false,.bl false]):=e4 ▸ upd_same
          have kp1_4 : H4 p1 = some (.lst [.bl false,.bl false,.bl false,.bl false]):=e4 ▸ keepE np1 hp2
          rw [show upd H3 p2 (.lst (_)) = H4 from e4]
          refine ⟨_,_,_,_,rfl,rfl,kp1_4,np2,by decide,fun p3 hp3=>?_⟩
          obtain ⟨H5,e5⟩ : ∃ H5,upd H4 p3 (.lst [.bl false,.bl false,.bl false,.bl false,.bl false,.bl false,.bl false]) = H5:=⟨_,rfl⟩
          have hE5 : H5 e = some (.ext (IsXD e (c 14) dv)):=e5 ▸ keepE hE4 hp3
          have x5 : Ext H1 ρ1 H5 ρ1:=e5 ▸ x4.trans (Ext.add hp3)
          have R5 : Rel H5 ρ1 st1:=e5 ▸ R4.add hp3
          have np3 : H5 p3 = some (.lst [.bl false,.bl false,.bl false,.bl false,.bl false,.bl false,.bl false]):=e5 ▸ upd_same
          have kp1_5 : H5 p1 = some (.lst [.bl false,.bl false,.bl false,.bl false]):=e5 ▸ keepE kp1_4 hp3
          rw [show upd H4 p3 (.lst ([.bl false,.bl false,.bl false,.bl false] ++ [.bl false,.bl false,.bl false])) = H5 from e5]
          refine ⟨_,rfl,?_⟩
          refine ⟨_,rfl,e,_,_,_,_,false,rfl,rfl,hE5,T14.xc,T14.k 10 (by decide) (by decide),?_⟩
          refine ⟨_,rfl,e,_,_,_,_,false,rfl,rfl,hE5,T14.xc,T14.k 11 (by decide) (by decide),?_⟩
          refine ⟨_,rfl,e,_,_,_,_,false,rfl,rfl,hE5,T14.xc,T14.k 12 (by decide) (by decide),?_⟩
          refine ⟨_,rfl,e,_,_,_,_,false,rfl,rfl,hE5,T14.xc,T14.k 13 (by decide) (by decide),?_⟩
          refine ⟨by decide,fun p4 hp4=>?_⟩
          obtain ⟨H6,e6⟩ : ∃ H6,upd H5 p4 (.lst [.bl false,.bl false,.bl false,.bl false]) = H6:=⟨_,rfl⟩
          have hE6 : H6 e = some (.ext (IsXD e (c 14) dv)):=e6 ▸ keepE hE5 hp4
          have x6 : Ext H1 ρ1 H6 ρ1:=e6 ▸ x5.trans (Ext.add hp4)
          have R6 : Rel H6 ρ1 st1:=e6 ▸ R5.add hp4
          have np4 : H6 p4 = some (.lst [.bl false,.bl false,.bl false,.bl false]):=e6 ▸ upd_same
          have kp3_6 : H6 p3 = some (.lst [.bl false,.bl false,.bl false,.bl false,.bl false,.bl false,.bl false]):=e6 ▸ keepE np3 hp4
          rw [show upd H5 p4 (.lst (_)) = H6 from e6]
          refine ⟨_,_,_,_,rfl,rfl,kp3_6,np4,by decide,fun p5 hp5=>?_⟩
          obtain ⟨H7,e7⟩ : ∃ H7,upd H6 p5 (.lst [.bl false,.bl false,.bl false,.bl false,.bl false,.bl false,.bl false,.bl false,.bl false,.bl false,.bl false]) = H7:=⟨_,rfl⟩
          have hE7 : H7 e = some (.ext (IsXD e (c 14) dv)):=e7 ▸ keepE hE6 hp5
          have x7 : Ext H1 ρ1 H7 ρ1:=e7 ▸ x6.trans (Ext.add hp5)
          have R7 : Rel H7 ρ1 st1:=e7 ▸ R6.add hp5
          have np5 : H7 p5 = some (.lst [.bl false,.bl false,.bl false,.bl false,.bl false,.bl false,.bl false,.bl false,.bl false,.bl false,.bl false]):=e7 ▸ upd_same
          have kp3_7 : H7 p3 = some (.lst [.bl false,.bl false,.bl false,.bl false,.bl false,.bl false,.bl false]):=e7 ▸ keepE kp3_6 hp5
          rw [show upd H6 p5 (.lst ([.bl false,.bl false,.bl false,.bl false,.bl false,.bl false,.bl false] ++ [.bl false,.bl false,.bl false,.bl false])) = H7 from e7]
          refine ⟨_,rfl,e,_,_,_,_,false,rfl,rfl,hE7,T14.xc,T14.k 3 (by decide) (by decide),?_⟩
          refine ⟨_,rfl,e,_,_,_,_,false,rfl,rfl,hE7,T14.xc,T14.k 2 (by decide) (by decide),?_⟩
          refine ⟨_,rfl,e,_,_,_,_,true,rfl,rfl,hE7,T14.xc,T14.k 14 (by decide) (by decide),?_⟩
          refine ⟨by decide,fun p6 hp6=>?_⟩
          obtain ⟨H8,e8⟩ : ∃ H8,upd H7 p6 (.lst [.bl false,.bl false,.bl true]) = H8:=⟨_,rfl⟩
          have hE8 : H8 e = some (.ext (IsXD e (c 14) dv)):=e8 ▸ keepE hE7 hp6
          have x8 : Ext H1 ρ1 H8 ρ1:=e8 ▸ x7.trans (Ext.add hp6)
          have R8 : Rel H8 ρ1 st1:=e8 ▸ R7.add hp6
          have np6 : H8 p6 = some (.lst [.bl false,.bl false,.bl true]):=e8 ▸ upd_same
          have kp5_8 : H8 p5 = some (.lst [.bl false,.bl false,.bl false,.bl false,.bl false,.bl false,.bl false,.bl false,.bl false,.bl false,.bl false]):=e8 ▸ keepE np5 hp6
          rw [show upd H7 p6 (.lst (_)) = H8 from e8]
          refine ⟨_,rfl,_,_,_,[false,false,false,false,false,false,false,false,false,false,false],rfl,sqk_of kp5_8,hE8,false,rfl,iteT ?_⟩
          refine ⟨_,rfl,.inl ⟨rfl,_,.inl (.inl np6)⟩,_,[false,false,true],rfl,rfl,np6,rfl,_,rfl,iteT ?_⟩
          refine ⟨_,rfl,e,_,_,_,_,true,rfl,rfl,hE8,T14.xc,T14.ve,_,rfl,iteT ?_⟩
          refine ⟨by decide,fun p7 hp7=>?_⟩
          obtain ⟨H9,e9⟩ : ∃ H9,upd H8 p7 (.lst [.str "deed",.str "house",.str "short"]) = H9:=⟨_,rfl⟩
          have hE9 : H9 e = some (.ext (IsXD e (c 14) dv)):=e9 ▸ keepE hE8 hp7
          have x9 : Ext H1 ρ1 H9 ρ1:=e9 ▸ x8.trans (Ext.add hp7)
          have R9 : Rel H9 ρ1 st1:=e9 ▸ R8.add hp7
          have np7 : H9 p7 = some (.lst [.str "deed",.str "house",.str "short"]):=e9 ▸ upd_same
          have kp5_9 : H9 p5 = some (.lst [.bl false,.bl false,.bl false,.bl false,.bl false,.bl false,.bl false,.bl false,.bl false,.bl false,.bl false]):=e9 ▸ keepE kp5_8 hp7
          have kp6_9 : H9 p6 = some (.lst [.bl false,.bl false,.bl true]):=e9 ▸ keepE np6 hp7
          rw [show upd H8 p7 (.lst (_)) = H9 from e9]
          refine ⟨_,rfl,.inl ⟨rfl,_,.inl (.inl kp6_9)⟩,_,[false,false,true],2,rfl,rfl,kp6_9,by decide,rfl,noB _ _ (by decide) (by decide),?_⟩
          refine ⟨_,_,_,_,rfl,rfl,.inl (.inl np7),rfl,?_⟩
          exact ⟨_,rfl,hA _ _ (x1.trans x9) R9 _ rfl⟩
        · rw [if_neg hx14] at hA
          exact hA.elim
def m__law_b_house : MS := (mSeqS (mIfS (toB (mOp oEq (mOp oMod (mVar 1) (mC (.int 9))) (mC (.int 8)))) (mRet (mOp oAdd (mVar 0) (mOp oMod (mOp oDiv (mVar 1) (mC (.int 9))) (mOp oPow (mC (.int 10)) (mC (.int 20)))))) mNext)
    (mRet (mOp (oI fun a b=>.int (a - b)) (mOp oMod (mVar 1) (mOp oAdd (mVar 0) (mC (.int 2)))) (mC (.int 1)))))
def F__law_b_house : FN:=callF m__law_b_house 2
theorem sc__law_b_house : FnScope ["n", "draw"] ["n", "draw"] (defScope s__law_b_house):=⟨rfl,rfl,rfl,by decide +kernel,rfl,by decide +kernel,by decide +kernel⟩
theorem ok__law_b_house {f : Addr} {fd : FuncData} (F : Fun K "_law_b_house" "_law_b_house" s__law_b_house f fd) (T : Txt mg)   : FnOk P w K mg base (CXD P w) 1 f fd ["n", "draw"] (spF mg 2 F__law_b_house):=by
  refine fun_ok2 (k:=0) (m:=m__law_b_house) F sc__law_b_house rfl rfl rfl fun cdv A outer s H E hr=>?_
  exact (sb_cons (ss_if (st_cmp (os_eq hr.units) (se_op os_mod (se_var 1) se_int) se_int) (sb_one (ss_ret (se_op os_add (se_var 0) (se_op os_mod (se_op os_div (se_var 1) se_int) (se_op os_pow se_int se_int))))) sb_nil)
    (sb_one (ss_ret (se_op os_sub (se_op os_mod (se_var 1) (se_op os_add (se_var 0) se_int)) se_int))))
def b__law_b_tuple_1 : MS := (mSeqS (mExpr (mBM mtAppend (mVar 5) (mCons (mCallF 2 F__law_b_house (mCons (mVar 2) (mCons (mVar 1) mNil))) mNil)))
    (mSet 1 (mOp oDiv (mVar 1) (mC (.int 81)))))
def m__law_b_tuple : MS := (mSeqS (mSet 2 (mCall cLen (mCons (mVar 0) mNil)))
    (mSeqS (mSet 3 (mOp oIx (mLst (mCons (mC (.str "make")) (mCons (mC (.str "lend")) (mCons (mC (.str "use")) (mCons (mC (.str "make")) (mCons (mC (.str "lend")) (mCons (mC (.str "use")) (mCons (mC (.str "give")) (mCons (mC (.str "Make")) (mCons (mC (.str "")) mNil)))))))))) (mOp oMod (mVar 1) (mC (.int 9)))))
    (mSeqS (mSet 1 (mOp oDiv (mVar 1) (mC (.int 9))))
    (mSeqS (mSet 4 (mOp oIx (mLst (mCons (mC (.int 2)) (mCons (mC (.int 2)) (mCons (mC (.int 2)) (mCons (mC (.int 0)) (mCons (mC (.int 1)) (mCons (mC (.int 3)) (mCons (mC (.int 4)) (mCons (mC (.int 2)) mNil))))))))) (mOp oMod (mVar 1) (mC (.int 8)))))
    (mSeqS (mIfS (tAndM (toB (mOp oEq (mVar 3) (mC (.str "lend")))) (toB (mOp oLt (mOp oMod (mVar 1) (mC (.int 8))) (mC (.int 3))))) (mSet 4 (mC (.int 3))) mNext)
    (mSeqS (mSet 1 (mOp oDiv (mVar 1) (mC (.int 8))))
    (mSeqS (mSet 5 (mTrk (mLstN mNil)))
    (mSeqS (mFor (gaName 6) (mRange1 (mCons (mVar 4) mNil)) b__law_b_tuple_1)
    (mSeqS (mIfS (toB (mOp oNe (mVar 5) (mLst mNil))) (mSeqS (mSet 7 (mTrk (mLstN (mCons (mOp (oI fun a b=>.int (a - b)) (mOp oMod (mVar 1) (mC (.int 5))) (mC (.int 1))) (mCons (mOp (oI fun a b=>.int (a - b)) (mOp oMod (mVar 1) (mC (.int 5))) (mC (.int 1))) (mCons (mC (.int 1)) (mCons (mOp oMod (mVar 1) (mOp oPow (mC (.int 10)) (mC (.int 20)))) (mCons (mC (.int 1)) mNil))))))))
    (mSeqS (mIfS (toB (mChain (oI fun a b=>.bl (decide (a <= b))) oLt (mC (.int 0)) (mOp oIx (mVar 5) (mC (.int 0))) (mVar 2))) (mSetIx (mVar 7) (mC (.int 4)) (mOp oAdd (mCallF 2 F__law_b_rights (mCons (mVar 0) (mCons (mOp oIx (mVar 5) (mC (.int 0))) mNil))) (mOp oMod (mOp oDiv (mVar 1) (mC (.int 5))) (mC (.int 2))))) mNext)
    (mSetIx (mVar 5) (mNeg (mC (.int 1))) (mOp oIx (mVar 7) (mOp oMod (mOp oDiv (mVar 1) (mC (.int 10))) (mC (.int 5))))))) mNext)
    (mRet (mCall cTuple (mCons (mOp oAdd (mLst (mCons (mVar 3) mNil)) (mVar 5)) mNil))))))))))))
def F__law_b_tuple : FN:=callF m__law_b_tuple 8
theorem sc__law_b_tuple : FnScope ["table", "draw", "n", "word", "many", "parts", "k", "last"] ["table", "draw"] (defScope s__law_b_tuple):=⟨rfl,rfl,rfl,by decide +kernel,rfl,by decide +kernel,by decide +kernel⟩
theorem ok__law_b_tuple {f : Addr} {fd : FuncData} (F : Fun K "_law_b_tuple" "_law_b_tuple" s__law_b_tuple f fd) (T : Txt mg)  (D__law_b_house : DefS P w K mg base 1 "_law_b_house" 2 F__law_b_house) (D__law_b_rights : DefS P w K mg base 1 "_law_b_rights" 2 F__law_b_rights) : FnOk P w K mg base (CXD P w) 2 f fd ["table", "draw"] (spF mg 2 F__law_b_tuple):=by
  refine fun_ok2 (k:=1) (m:=m__law_b_tuple) F sc__law_b_tuple rfl rfl rfl fun cdv A outer s H E hr=>?_
  exact (sb_cons (ss_set 2 sc__law_b_tuple.nd (se_callB cs_len rfl T.b_len PySem.boot_len (sa_cons (se_var 0) sa_nil)))
    (sb_cons (ss_set 3 sc__law_b_tuple.nd (se_ix (se_lst (sa_cons se_str (sa_cons se_str (sa_cons se_str (sa_cons se_str (sa_cons se_str (sa_cons se_str (sa_cons se_str (sa_cons se_str (sa_cons se_str sa_nil)))))))))) (se_op os_mod (se_var 1) se_int)))
    (sb_cons (ss_set 1 sc__law_b_tuple.nd (se_op os_div (se_var 1) se_int))
    (sb_cons (ss_set 4 sc__law_b_tuple.nd (se_ix (se_lst (sa_cons se_int (sa_cons se_int (sa_cons se_int (sa_cons se_int (sa_cons se_int (sa_cons se_int (sa_cons se_int (sa_cons se_int sa_nil))))))))) (se_op os_mod (se_var 1) se_int)))
    (sb_cons (ss_if (SimW.t (sw_and (st_cmp (os_eq hr.units) (se_var 3) se_str) (sw_and1 (st_cmp (os_lt hr.units) (se_op os_mod (se_var 1) se_int) se_int)))) (sb_one (ss_set 4 sc__law_b_tuple.nd se_int)) sb_nil)
    (sb_cons (ss_set 1 sc__law_b_tuple.nd (se_op os_div (se_var 1) se_int))
    (sb_cons (ss_set 5 sc__law_b_tuple.nd (se_trk (sn_lst sa_nil)))
    (sb_cons (ss_for PassesOwn.leaving rfl (si_range1 rfl T.b_range (sa_cons (se_var 4) sa_nil)) (sg_name (i:=6) sc__law_b_tuple.nd) (sb_cons (ss_expr (se_append (se_var 5) (sa_cons (se_call D__law_b_house (hr.mono (by decide)) pass_onD rfl (sa_cons (se_var 2) (sa_cons (se_var 1) sa_nil))) sa_nil)))
    (sb_one (ss_set 1 sc__law_b_tuple.nd (se_op os_div (se_var 1) se_int)))))
    (sb_cons (ss_if (st_cmp (os_ne hr.units) (se_var 5) (se_lst sa_nil)) (sb_cons (ss_set 7 sc__law_b_tuple.nd (se_trk (sn_lst (sa_cons (se_op os_sub (se_op os_mod (se_var 1) se_int) se_int) (sa_cons (se_op os_sub (se_op os_mod (se_var 1) se_int) se_int) (sa_cons se_int (sa_cons (se_op os_mod (se_var 1) (se_op os_pow se_int se_int)) (sa_cons se_int sa_nil))))))))
    (sb_cons (ss_if (st_chain os_le (os_lt hr.units) se_int (se_ix (se_var 5) se_int) (se_var 2)) (sb_one (ss_sub (se_op os_add (se_call D__law_b_rights (hr.mono (by decide)) pass_onD rfl (sa_cons (se_var 0) (sa_cons (se_ix (se_var 5) se_int) sa_nil))) (se_op os_mod (se_op os_div (se_var 1) se_int) se_int)) (se_var 7) se_int)) sb_nil)
    (sb_one (ss_sub (se_ix (se_var 7) (se_op os_mod (se_op os_div (se_var 1) se_int) se_int)) (se_var 5) (se_neg se_int))))) sb_nil)
    (sb_one (ss_ret (se_callT cs_tuple rfl T.b_tuple boot_tuple (sa_cons (se_op os_add (se_lst (sa_cons (se_var 3) sa_nil)) (se_var 5)) sa_nil)))))))))))))
def b__law_b_due_1 : MS:=(mIfS (tOrM (toB (mOp oLt (mVar 4) (mC (.int 0)))) (toB (mOp (oI fun a b=>.bl (decide (b <= a))) (mVar 4) (mVar 2)))) (mRet (mC (.str "house"))) mNext)
def e__law_b_due_1 : ME:=(mTrk (mListN (mVar 0)))
def e__law_b_due_2 : ME:=(mCall cTuple (mCons (mVar 0) mNil))
def m__law_b_due : MS := (mSeqS (mSet 2 (mCall cLen (mCons (mVar 0) mNil)))
    (mSeqS (mSet 3 (mDisp3 "make" "use" "lend" (mC (.int 3)) (mC (.int 3)) (mC (.int 4))))
    (mSeqS (mIfS (tOrM (toB (mOp oNe (mDGet2 (mVar 3) (mOp oIx (mVar 1) (mC (.int 0))) (mC (.int 0))) (mCall cLen (mCons (mVar 1) mNil)))) (toB (mOp oLt (mOp oIx (mVar 1) (mNeg (mC (.int 1)))) (mC (.int 1))))) (mRet (mC (.str "deed"))) mNext)
    (mSeqS (mFor (gaName 4) (mSeq (mSl (mVar 1) (mPart (mC (.int 1))) (mPart (mNeg (mC (.int 1)))))) b__law_b_due_1)
    (mSeqS (mIfS (tAndM (toB (mOp oEq (mOp oIx (mVar 1) (mC (.int 0))) (mC (.str "lend")))) (toB (mOp oEq (mOp oIx (mVar 1) (mC (.int 1))) (mOp oIx (mVar 1) (mC (.int 2)))))) (mRet (mC (.str "house"))) mNext)
    (mSeqS (mIfS (tAndM (toB (mOp oNe (mOp oIx (mVar 1) (mC (.int 0))) (mC (.str "make")))) (toB (mOp oLt (mCallF 2 F__law_b_rights (mCons (mVar 0) (mCons (mOp oIx (mVar 1) (mC (.int 1))) mNil))) (mOp oIx (mVar 1) (mNeg (mC (.int 1))))))) (mRet (mC (.str "short"))) mNext)
    (mSeqS (mSet 5 (mOp oIx (mLst (mCons (mVar 2) (mCons (mOp oIx (mVar 1) (mC (.int 1))) (mCons (mOp oIx (mVar 1) (mC (.int 2))) mNil)))) (mBM mtIndexS (mLst (mCons (mC (.str "use")) (mCons (mC (.str "make")) (mCons (mC (.str "lend")) mNil)))) (mCons (mOp oIx (mVar 1) (mC (.int 0))) mNil))))
    (mSeqS (mSet 6 (mTrk (mCompN [none] (gaName 0) (mSeq (mVar 0)) mTrue e__law_b_due_1)))
    (mSeqS (mSetIx (mOp oIx (mVar 6) (mOp oIx (mVar 1) (mC (.int 1)))) (mVar 5) (mOp oAdd (mOp oIx (mOp oIx (mVar 6) (mOp oIx (mVar 1) (mC (.int 1)))) (mVar 5)) (mOp oIx (mVar 1) (mNeg (mC (.int 1))))))
    (mRet (mCall cTuple (mCons (mVal (mCompN [none] (gaName 0) (mSeq (mVar 6)) mTrue e__law_b_due_2)) mNil))))))))))))
def F__law_b_due : FN:=callF m__law_b_due 7
theorem sc__law_b_due : FnScope ["table", "deed", "n", "sizes", "house", "place", "rows"] ["table", "deed"] (defScope s__law_b_due):=⟨rfl,rfl,rfl,by decide +kernel,rfl,by decide +kernel,by decide +kernel⟩
theorem ok__law_b_due {f : Addr} {fd : FuncData} (F : Fun K "_law_b_due" "_law_b_due" s__law_b_due f fd) (T : Txt mg)  (D__law_b_rights : DefS P w K mg base 1 "_law_b_rights" 2 F__law_b_rights) : FnOk P w K mg base (CXD P w) 2 f fd ["table", "deed"] (spF mg 2 F__law_b_due):=by
  refine fun_ok2 (k:=1) (m:=m__law_b_due) F sc__law_b_due rfl rfl rfl fun cdv A outer s H E hr=>?_
  exact (sb_cons (ss_set 2 sc__law_b_due.nd (se_callB cs_len rfl T.b_len PySem.boot_len (sa_cons (se_var 0) sa_nil)))
    (sb_cons (ss_set 3 sc__law_b_due.nd (se_disp3 se_int se_int se_int))
    (sb_cons (ss_if (SimW.t (sw_or (st_cmp (os_ne hr.units) (se_dget2 (room_u1 hr) (se_var 3) (se_ix (se_var 1) se_int) se_int ⟨rfl,rfl,rfl,rfl⟩) (se_callB cs_len rfl T.b_len PySem.boot_len (sa_cons (se_var 1) sa_nil))) (sw_or1 (st_cmp (os_lt hr.units) (se_ix (se_var 1) (se_neg se_int)) se_int)))) (sb_one (ss_ret se_str)) sb_nil)
    (sb_cons (ss_for PassesOwn.leaving rfl (si_seq (se_slice (se_var 1) (so_some se_int) (so_some (se_neg se_int)))) (sg_name (i:=4) sc__law_b_due.nd) (sb_one (ss_if (SimW.t (sw_or (st_cmp (os_lt hr.units) (se_var 4) se_int) (sw_or1 (st_cmp os_ge (se_var 4) (se_var 2))))) (sb_one (ss_ret se_str)) sb_nil)))
    (sb_cons (ss_if (SimW.t (sw_and (st_cmp (os_eq hr.units) (se_ix (se_var 1) se_int) se_str) (sw_and1 (st_cmp (os_eq hr.units) (se_ix (se_var 1) se_int) (se_ix (se_var 1) se_int))))) (sb_one (ss_ret se_str)) sb_nil)
    (sb_cons (ss_if (SimW.t (sw_and (st_cmp (os_ne hr.units) (se_ix (se_var 1) se_int) se_str) (sw_and1 (st_cmp (os_lt hr.units) (se_call D__law_b_rights (hr.mono (by decide)) pass_onD rfl (sa_cons (se_var 0) (sa_cons (se_ix (se_var 1) se_int) sa_nil))) (se_ix (se_var 1) (se_neg se_int)))))) (sb_one (ss_ret se_str)) sb_nil)
    (sb_cons (ss_set 5 sc__law_b_due.nd (se_ix (se_lst (sa_cons (se_var 2) (sa_cons (se_ix (se_var 1) se_int) (sa_cons (se_ix (se_var 1) se_int) sa_nil)))) (se_indexS (se_lst (sa_cons se_str (sa_cons se_str (sa_cons se_str sa_nil)))) (sa_cons (se_ix (se_var 1) se_int) sa_nil))))
    (sb_cons (by first | exact ss_compT [none] ["row"] 6 sc__law_b_due.nd rfl (si_seq (se_var 0)) (fun _ _ _ _ _=>(sg_name (i:=0) (show (["row"] : List Str).Nodup by decide +kernel))) (fun _ _ _ _ _=>(se_trk (sn_list (se_var 0) rfl T.b_list))) (fun _ _ _ _ _=>sts_nil) free_name | exact ss_set 6 sc__law_b_due.nd (se_trk (sn_comp [none] ["row"] rfl (si_seq (se_var 0)) (fun _ _ _ _ _=>(sg_name (i:=0) (show (["row"] : List Str).Nodup by decide +kernel))) (fun _ _ _ _ _=>(se_trk (sn_list (se_var 0) rfl T.b_list))) (fun _ _ _ _ _=>sts_nil) free_name)))
    (sb_cons (ss_sub (se_op os_add (se_ix (se_ix (se_var 6) (se_ix (se_var 1) se_int)) (se_var 5)) (se_ix (se_var 1) (se_neg se_int))) (se_ix (se_var 6) (se_ix (se_var 1) se_int)) (se_var 5))
    (sb_one (ss_ret (se_callT cs_tuple rfl T.b_tuple boot_tuple (sa_cons (se_val (sn_comp [none] ["row"] rfl (si_seq (se_var 6)) (fun _ _ _ _ _=>(sg_name (i:=0) (show (["row"] : List Str).Nodup by decide +kernel))) (fun _ _ _ _ _=>(se_callT cs_tuple rfl T.b_tuple boot_tuple (sa_cons (se_var 0) sa_nil))) (fun _ _ _ _ _=>sts_nil) free_name)) sa_nil)))))))))))))
def b_law_1 : MS := (mSeqS (mSet 5 (mCallF 2 F__law_b_tuple (mCons (mVar 2) (mCons (mCallF 2 F__law_b_draw (mCons (mVar 0) (mCons (mVar 4) mNil))) mNil))))
    (mIfS (toB (mOp oNe (mCallF 2 F__law_b_told (mCons (mVar 2) (mCons (mVar 5) mNil))) (mCallF 2 F__law_b_due (mCons (mVar 2) (mCons (mVar 5) mNil))))) (mRet (mC (.bl false))) mNext))
def m_law : MS := (mSeqS (mSet 1 (mOp oAdd (mC (.int 1)) (mOp oMod (mCallF 2 F__law_b_draw (mCons (mVar 0) (mCons (mC (.int 0)) mNil))) (mC (.int 4)))))
    (mSeqS (mIfS (toB (mOp oEq (mOp oMod (mOp oDiv (mCallF 2 F__law_b_draw (mCons (mVar 0) (mCons (mC (.int 0)) mNil))) (mC (.int 4))) (mC (.int 6))) (mC (.int 1)))) (mSet 1 (mOp oAdd (mVar 1) (mC (.int 4)))) mNext)
    (mSeqS (mSet 2 (mCallF 3 F__law_b_table (mCons (mVar 0) (mCons (mVar 1) (mCons (mC (.int 1)) mNil)))))
    (mSeqS (mSet 3 (mOp oAdd (mC (.int 1)) (mOp oMul (mVar 1) (mOp oAdd (mVar 1) (mC (.int 1))))))
    (mSeqS (mFor (gaName 4) (mRange2 (mCons (mVar 3) (mCons (mCall cMax (mCons (mOp oAdd (mVar 3) (mC (.int 6))) (mCons (mCall cMin (mCons (mCall cLen (mCons (mVar 0) mNil)) (mCons (mOp oAdd (mVar 3) (mC (.int 40))) mNil))) mNil))) mNil))) b_law_1)
    (mRet (mC (.bl true))))))))
def F_law : FN:=callF m_law 6
theorem sc_law : FnScope ["script", "n", "table", "start", "k", "deed"] ["script"] (defScope s_law):=⟨rfl,rfl,rfl,by decide +kernel,rfl,by decide +kernel,by decide +kernel⟩
theorem ok_law {f : Addr} {fd : FuncData} (F : Fun K "law" "law" s_law f fd) (T : Txt mg)  (D__law_b_draw : DefS P w K mg base 1 "_law_b_draw" 2 F__law_b_draw) (D__law_b_table : DefS P w K mg base 2 "_law_b_table" 3 F__law_b_table) (D__law_b_tuple : DefS P w K mg base 2 "_law_b_tuple" 2 F__law_b_tuple) (D__law_b_told : DefS P w K mg base 6 "_law_b_told" 2 F__law_b_told) (D__law_b_due : DefS P w K mg base 2 "_law_b_due" 2 F__law_b_due) : FnOk P w K mg base (CXD P w) 7 f fd ["script"] (spF mg 1 F_law):=by
  refine fun_ok2 (k:=6) (m:=m_law) F sc_law rfl rfl rfl fun cdv A outer s H E hr=>?_
  exact (sb_cons (ss_set 1 sc_law.nd (se_op os_add se_int (se_op os_mod (se_call D__law_b_draw (hr.mono (by decide)) pass_onD rfl (sa_cons (se_var 0) (sa_cons se_int sa_nil))) se_int)))
    (sb_cons (ss_if (st_cmp (os_eq hr.units) (se_op os_mod (se_op os_div (se_call D__law_b_draw (hr.mono (by decide)) pass_onD rfl (sa_cons (se_var 0) (sa_cons se_int sa_nil))) se_int) se_int) se_int) (sb_one (ss_set 1 sc_law.nd (se_op os_add (se_var 1) se_int))) sb_nil)
    (sb_cons (ss_set 2 sc_law.nd (se_call D__law_b_table (hr.mono (by decide)) pass_onD rfl (sa_cons (se_var 0) (sa_cons (se_var 1) (sa_cons se_int sa_nil)))))
    (sb_cons (ss_set 3 sc_law.nd (se_op os_add se_int (se_op os_mul (se_var 1) (se_op os_add (se_var 1) se_int))))
    (sb_cons (ss_for PassesOwn.leaving rfl (si_range2 rfl T.b_range (sa_cons (se_var 3) (sa_cons (se_callB (cs_max rfl) rfl T.b_max boot_max (sa_cons (se_op os_add (se_var 3) se_int) (sa_cons (se_callB (cs_min rfl) rfl T.b_min boot_min (sa_cons (se_callB cs_len rfl T.b_len PySem.boot_len (sa_cons (se_var 0) sa_nil)) (sa_cons (se_op os_add (se_var 3) se_int) sa_nil))) sa_nil))) sa_nil))) (sg_name (i:=4) sc_law.nd) (sb_cons (ss_set 5 sc_law.nd (se_call D__law_b_tuple (hr.mono (by decide)) pass_onD rfl (sa_cons (se_var 2) (sa_cons (se_call D__law_b_draw (hr.mono (by decide)) pass_onD rfl (sa_cons (se_var 0) (sa_cons (se_var 4) sa_nil))) sa_nil))))
    (sb_one (ss_if (st_cmp (os_ne hr.units) (se_call D__law_b_told (hr.mono (by decide)) pass_onD rfl (sa_cons (se_var 2) (sa_cons (se_var 5) sa_nil))) (se_call D__law_b_due (hr.mono (by decide)) pass_onD rfl (sa_cons (se_var 2) (sa_cons (se_var 5) sa_nil)))) (sb_one (ss_ret se_bl)) sb_nil))))
    (sb_one (ss_ret se_bl)))))))
end
end Lw
namespace Lw
open PySem PySem.Spec L2 Sm
theorem emod_lt (a : Int) {b : Int} (h : 0 < b) : 0 <= a % b /\ a % b < b:=⟨Int.emod_nonneg a (by omega),Int.emod_lt_of_pos a h⟩
def rowV (r : List Int) : PV:=.tup (r.map .int)
def tabV (tb : List (List Int)) : PV:=.tup (tb.map rowV)
structure Wt' (n : Nat) (tb : List (List Int)) : Prop where
  len : tb.length = n
  row : ∀ r ∈ tb,r.length = n + 1
  nn : ∀ r ∈ tb,∀ x ∈ r,(0 : Int) <= x
  n1 : 1 <= n
  n8 : n <= 8
def upto (n : Nat) (f : Nat -> Int) : Int:=((List.range n).map f).sum
theorem upto_succ (n : Nat) (f : Nat -> Int) : upto (n + 1) f = upto n f + f n:=by
  unfold upto
  rw [List.range_succ,List.map_append,List.sum_append]
  simp
theorem upto_congr {n : Nat} {f g : Nat -> Int} (h : ∀ i,i < n -> f i = g i) : upto n f = upto n g:=by
  induction n with
  | zero=>rfl
  | succ n ih=>rw [upto_succ,upto_succ,ih fun i hi=>h i (by omega),h n (by omega)]
theorem upto_sub (n : Nat) (f g : Nat -> Int) : upto n (fun i=>f i - g i) = upto n f - upto n g:=by
  induction n with
  | zero=>rfl
  | succ n ih=>rw [upto_succ,upto_succ,upto_succ,ih]; omega
theorem map_getD {α β : Type} (l : List α) (d : α) (f : α -> β) : l.map f = (List.range l.length).map fun i=>f (l.getD i d):=by
  refine List.ext_getElem? fun i=>?_
  rw [List.getElem?_map,List.getElem?_map]
  by_cases hi : i < l.length
  · rw [List.getElem?_range hi,getD_some hi d]; rfl
  · rw [List.getElem?_eq_none (by omega),List.getElem?_eq_none (by rw [List.length_range]; omega)]; rfl
theorem sum_upto (r : List Int) : r.sum = upto r.length fun j=>r.getD j 0:=by
  have:=map_getD r 0 id
  rw [List.map_id] at this
  rw [upto]
  conv=>lhs; rw [this]
  rfl
def ent (tb : List (List Int)) (i j : Nat) : Int:=(tb.getD i []).getD j 0
def Sz (n : Nat) (tb : List (List Int)) : Prop:=tb.length = n /\ ∀ r ∈ tb,r.length = n + 1
theorem Wt'.sz {n : Nat} {tb : List (List Int)} (w : Wt' n tb) : Sz n tb:=⟨w.len,w.row⟩
theorem Sz.row {n i : Nat} {tb : List (List Int)} (z : Sz n tb) (hi : i < n) : tb[i]? = some (tb.getD i []) /\ (tb.getD i []).length = n + 1:=by
  have e:=getD_some (show i < tb.length by rw [z.1]; exact hi) []
  exact ⟨e,z.2 _ (List.mem_of_getElem? e)⟩
theorem Sz.cell {n i j : Nat} {tb : List (List Int)} (z : Sz n tb) (hi : i < n) (hj : j <= n) : (tb.getD i [])[j]? = some (ent tb i j):=getD_some (by rw [(z.row hi).2]; omega) 0
theorem Wt'.ent_nn {n i j : Nat} {tb : List (List Int)} (w : Wt' n tb) (hi : i < n) (hj : j <= n) : 0 <= ent tb i j:=w.nn _ (List.mem_of_getElem? (w.sz.row hi).1) _ (List.mem_of_getElem? (w.sz.cell hi hj))
theorem is_whole_int (i : Int) (st : Store) : F_is_whole [.int i] st = .ok (.bl true) st:=by
  simp [F_is_whole,callF,m_is_whole,isI,tyN]
theorem is_between_ok (a b c : Int) (st : Store) : F_is_between [.int a,.int b,.int c] st = .ok (.bl (decide (b <= a) && decide (a <= c))) st:=by
  by_cases h : b <= a <;> simp [F_is_between,callF,m_is_between,is_whole_int,h]
theorem is_house_ok {V : PV} {n : Nat} {st : Store} (hV : cLen st [V] = .ok (.int n) st) (i : Int) : F_is_house [V,.int i] st = .ok (.bl (decide (0 <= i) && decide (i < n))) st:=by
  have e : decide (i <= (n : Int) - 1) = decide (i < (n : Int)):=by
    rw [decide_eq_decide]; omega
  simp [F_is_house,callF,m_is_house,hV,is_between_ok,e]
theorem is_house_yes {V : PV} {n i : Nat} {st : Store} (hV : cLen st [V] = .ok (.int n) st) (hi : i < n) : F_is_house [V,.int i] st = .ok (.bl true) st:=by
  rw [is_house_ok hV]
  simp; omega
def rightsF (tb : List (List Int)) (h : Nat) : Int:=upto tb.length (fun o=>ent tb o h) - ((tb.getD h []).sum - ent tb h h)
theorem rightsF_eq {n h : Nat} {tb : List (List Int)} (z : Sz n tb) (hh : h < n) : rightsF tb h = upto n (fun o=>ent tb o h) - (upto n (fun j=>ent tb h j) + ent tb h n - ent tb h h):=by
  unfold rightsF
  rw [z.1,sum_upto (tb.getD h []),(z.row hh).2,upto_succ]
  rfl
theorem rights_ok {n h : Nat} {tb : List (List Int)} (z : Sz n tb) (hn : n <= 100) (hh : h < n) (st : Store) : F_rights [tabV tb,.int h] st = .ok (.int (rightsF tb h)) st:=by
  have hH:=is_house_yes (V:=tabV tb) (n:=n) (i:=h) (st:=st) (by simp [tabV,z.1]) hh
  have hc : compG (gaName 0) mTrue e_rights_1 [] (capG [none,some 1] [some (tabV tb),some (.int h),none,none,none]) (tb.map rowV) st = .ok (tb.map fun r=>.int (r.getD h 0)) st:=by
    refine compG_on _ _ (by simp) fun r hr=>⟨_,rfl,?_⟩
    have e:=atI_get (getD_some (show h < r.length by rw [z.2 r hr]; omega) 0)
    simp [capG,e_rights_1,rowV,atI_map,e]
  have e1:=atI_get (z.row hh).1
  have e2:=atI_get (z.cell hh (Nat.le_of_lt hh))
  have hs : (tb.map fun r=>r.getD h 0).sum = upto n fun o=>ent tb o h:=by
    rw [map_getD tb [] fun r=>r.getD h 0,z.1]; rfl
  have hl : tb.length <= 1000000:=by rw [z.1]; omega
  unfold rightsF
  rw [z.1,<- hs]
  obtain ⟨r,hr⟩ : ∃ r,tb.getD h [] = r:=⟨_,rfl⟩
  obtain ⟨x,hx⟩ : ∃ x,ent tb h h = x:=⟨_,rfl⟩
  rw [hr] at e1 e2 ⊢
  rw [hx] at e2 ⊢
  obtain ⟨q,hq⟩ : ∃ q,(tb.map fun r=>r.getD h 0) = q:=⟨_,rfl⟩
  have hq2 : (tb.map fun r=>PV.int (r.getD h 0)) = q.map .int:=by rw [<- hq,List.map_map]; rfl
  rw [hq2] at hc
  rw [hq]
  unfold tabV at hH hc ⊢
  simp [F_rights,callF,m_rights,hH,hc,hl,lim_eq,atI_map,e1,rowV,e2]
def dstep (m x : Int) : Int:=(m * 69621 + x % 998244353 + 1) % 1000000007
def dM (k : Nat) (pre : List Int) : Int:=pre.foldl dstep (1000003 * (k + 1))
theorem dM_snoc (k : Nat) (pre : List Int) (x : Int) : dM k (pre ++ [x]) = (dM k pre * 69621 + x % 998244353 + 1) % 1000000007:=by
  unfold dM
  rw [List.foldl_append,List.foldl_cons,List.foldl_nil,dstep]
theorem dM_nil (k : Nat) : dM k [] = 1000003 * (k + 1):=by
  unfold dM
  rw [List.foldl_nil]
theorem dM_bd (k : Nat) (hk : k <= 1000) (l : List Int) : 0 <= dM k l /\ dM k l < 10000000000:=by
  rcases List.eq_nil_or_concat l with rfl | ⟨pre,x,rfl⟩
  · rw [dM_nil]; omega
  · rw [List.concat_eq_append,dM_snoc]
    have:=emod_lt (dM k pre * 69621 + x % 998244353 + 1) (b:=1000000007) (by decide)
    omega
def drawF (k : Nat) (m : Int) : Int:=((m * m % 1000000007 + 7919 * k * k) * 48271 % 2147483647) * ((m * m % 1000000007 + 7919 * k * k) * 48271 % 2147483647) % 2147483647 / 8
def drawI (ns : List Int) (k : Nat) : Int:=match ns[k]? with
  | some x=>x % 10000000000000000000000000000000000000000
  | none=>drawF k (dM k (ns.take 7))
theorem draw_ok (ns : List Int) (k : Nat) (st : Store) (hk : k <= 1000) : F__law_b_draw [.fro (ns.map .int),.int k] st = .ok (.int (drawI ns k)) st:=by
  by_cases h : k < ns.length
  · have h' : (k : Int) < ns.length:=by omega
    have e : ns[k]? = some ns[k]:=List.getElem?_eq_getElem h
    simp [F__law_b_draw,callF,m__law_b_draw,h,atI_map,atI_get e,drawI]
  · have h' : ¬ ((k : Int) < ns.length):=by omega
    have hn : ns[k]? = none:=List.getElem?_eq_none (by omega)
    have hcut : cut ns none (some 7) = ns.take 7:=cut_front ns 7
    have hl : (ns.take 7).length <= lim:=by
      rw [List.length_take,lim_eq]
      omega
    have hd : drawI ns k = drawF k (dM k (ns.take 7)):=by
      unfold drawI; rw [hn]
    rw [hd]
    generalize ns.take 7 = fr at hcut hl ⊢
    obtain ⟨Γ',st',e1,c,rfl,eΓ⟩:=forG_invL (g:=PV.int) (xs:=fr) (ga:=gaName 3)
      (body:=b__law_b_draw_1) (w:=[])
      (Γ:=[some (.fro (ns.map .int)),some (.int k),some (.int (1000003 * (k + 1))),none]) (st:=st)
      (fun pre Γ st'=>∃ (c : Option PV),st' = st /\ Γ = [some (.fro (ns.map .int)),some (.int k),some (.int (dM k pre)),c])
      (fun i Γ st' _=>by simp)
      (fun pre x post Γ st' hx ⟨c,e,eΓ⟩=>by
        subst e; subst eΓ
        refine ⟨_,rfl,[some (.fro (ns.map .int)),some (.int k),some (.int (dM k (pre ++ [x]))),some (.int x)],st',?_,some (.int x),rfl,rfl⟩
        rw [dM_snoc]
        simp [b__law_b_draw_1])
      ⟨none,rfl,by rw [dM_nil]⟩
    subst eΓ
    obtain ⟨hm0,hm1⟩:=dM_bd k hk fr
    generalize dM k fr = m at hm0 hm1 e1 ⊢
    have hb1 : -18446744073709551616 < m /\ m < 18446744073709551616:=by omega
    unfold drawF
    obtain ⟨q,hq⟩ : ∃ q,m * m % 1000000007 = q:=⟨_,rfl⟩
    rw [hq]
    obtain ⟨r,hr⟩ : ∃ r : Int,(q + 7919 * k * k) * 48271 % 2147483647 = r:=⟨_,rfl⟩
    have hr2:=emod_lt ((q + 7919 * k * k) * 48271) (b:=2147483647) (by omega)
    rw [hr] at hr2 ⊢
    have hb2 : -18446744073709551616 < r /\ r < 18446744073709551616:=by omega
    have hk1 : -18446744073709551616 < (k : Int) /\ (k : Int) < 18446744073709551616:=by omega
    simp only [F__law_b_draw,callF,m__law_b_draw]
    simp -implicitDefEqProofs [h,hl,cut_map,hcut,e1,hb1,hq,hk1,hr,hb2]
def putT (tb : List (List Int)) (i j : Nat) (x : Int) : List (List Int):=tb.set i ((tb.getD i []).set j x)
theorem cell_ix {n i j : Nat} {tb : List (List Int)} (z : Sz n tb) (hi : i < n) (hj : j <= n) (st : Store) : oIx st (tabV tb) (.int i) = .ok (rowV (tb.getD i [])) st /\ oIx st (rowV (tb.getD i [])) (.int j) = .ok (.int (ent tb i j)) st:=by
  constructor
  · unfold tabV; rw [oIx_tup,atI_map,atI_get (z.row hi).1]; rfl
  · unfold rowV; rw [oIx_tup,atI_map,atI_get (z.cell hi hj)]; rfl
theorem upto_but {n h : Nat} (f : Nat -> Int) (hh : h < n) : upto n f = f h + upto n fun j=>if j ≠ h then f j else 0:=by
  induction n with
  | zero=>exact absurd hh (Nat.not_lt_zero _)
  | succ n ih=>
    rw [upto_succ,upto_succ]
    by_cases e : n = h
    · subst e
      rw [if_neg (by simp),upto_congr (f:=f) (g:=fun j=>if j ≠ n then f j else 0) fun i hi=>by rw [if_pos (by omega)]]
      omega
    · rw [if_pos e,ih (by omega)]
      omega
theorem set_cut {α : Type} (xs : List α) (i : Nat) (x : α) (h : i < xs.length) : xs.take i ++ [x] ++ xs.drop (i + 1) = xs.set i x:=by
  rw [List.set_eq_take_append_cons_drop,if_pos h,List.append_assoc]; rfl
theorem raised_ok {n i j : Nat} {tb : List (List Int)} (z : Sz n tb) (hn : n <= 100) (hi : i < n) (hj : j <= n) (k : Int) (st : Store) : F_raised [tabV tb,.int i,.int j,.int k] st = .ok (tabV (putT tb i j (ent tb i j + k))) st:=by
  have c0:=cell_ix z hi hj st
  have hrl:=(z.row hi).2
  have g1 : rowV ((tb.getD i []).set j (ent tb i j + k)) = .tup (((tb.getD i []).take j).map .int ++ [.int (ent tb i j + k)] ++ ((tb.getD i []).drop (j + 1)).map .int):=by
    unfold rowV
    rw [<- set_cut _ _ _ (by omega),List.map_append,List.map_append]; rfl
  have g2 : tabV (putT tb i j (ent tb i j + k)) = .tup ((tb.take i).map rowV ++ [rowV ((tb.getD i []).set j (ent tb i j + k))] ++ (tb.drop (i + 1)).map rowV):=by
    unfold tabV putT
    rw [<- set_cut _ _ _ (by rw [z.1]; exact hi),List.map_append,List.map_append]; rfl
  have c3 : cut ((tb.getD i []).map PV.int) none (some (j : Int)) = ((tb.getD i []).take j).map .int:=by rw [cut_map,cut_front]
  have c4 : cut ((tb.getD i []).map PV.int) (some ((j : Int) + 1)) none = ((tb.getD i []).drop (j + 1)).map .int:=by rw [cut_map]; exact congrArg _ (cut_back _ (j + 1))
  have c5 : cut (tb.map rowV) none (some (i : Int)) = (tb.take i).map rowV:=by rw [cut_map,cut_front]
  have c6 : cut (tb.map rowV) (some ((i : Int) + 1)) none = (tb.drop (i + 1)).map rowV:=by rw [cut_map]; exact congrArg _ (cut_back _ (i + 1))
  have l3 : (((tb.getD i []).take j).map PV.int).length = j:=by rw [List.length_map,List.length_take,hrl]; omega
  have l4 : (((tb.getD i []).drop (j + 1)).map PV.int).length = n - j:=by rw [List.length_map,List.length_drop,hrl]; omega
  have l5 : ((tb.take i).map rowV).length = i:=by rw [List.length_map,List.length_take,z.1]; omega
  have l6 : ((tb.drop (i + 1)).map rowV).length = n - (i + 1):=by rw [List.length_map,List.length_drop,z.1]
  have b1 : j + 1 <= 1000000:=by omega
  have b2 : j + 1 + (n - j) <= 1000000:=by omega
  have b3 : i + 1 <= 1000000:=by omega
  have b4 : i + 1 + (n - (i + 1)) <= 1000000:=by omega
  have hf : fin st (tabV (putT tb i j (ent tb i j + k))) st = .ok (tabV (putT tb i j (ent tb i j + k))) st:=fin_good (by simp [good,tabV,rowV])
  obtain ⟨c1,c2⟩:=c0
  have q1 : oSl st (rowV (tb.getD i [])) none (some (j : Int)) = .ok (.tup (((tb.getD i []).take j).map .int)) st:=by unfold rowV; rw [oSl_tup,c3]
  have q2 : oSl st (rowV (tb.getD i [])) (some ((j : Int) + 1)) none = .ok (.tup (((tb.getD i []).drop (j + 1)).map .int)) st:=by unfold rowV; rw [oSl_tup,c4]
  have q3 : oSl st (tabV tb) none (some (i : Int)) = .ok (.tup ((tb.take i).map rowV)) st:=by unfold tabV; rw [oSl_tup,c5]
  have q4 : oSl st (tabV tb) (some ((i : Int) + 1)) none = .ok (.tup ((tb.drop (i + 1)).map rowV)) st:=by unfold tabV; rw [oSl_tup,c6]
  rw [g2] at hf ⊢
  rw [g1] at hf ⊢
  generalize ent tb i j = x at *
  generalize ((tb.getD i []).take j).map PV.int = v3 at *
  generalize ((tb.getD i []).drop (j + 1)).map PV.int = v4 at *
  generalize (tb.take i).map rowV = v5 at *
  generalize (tb.drop (i + 1)).map rowV = v6 at *
  generalize rowV (tb.getD i []) = rv at *
  generalize tabV tb = T at *
  simp -implicitDefEqProofs at hf
  simp -implicitDefEqProofs [F_raised,callF,m_raised,c1,c2,q1,q2,q3,q4,lim_eq,l3,l4,l5,l6,b1,b2,b3,b4,hf]
structure TabLike (st : Store) (V : PV) (n : Nat) (tb : List (List Int)) : Prop where
  len : cLen st [V] = .ok (.int n) st
  row : ∀ i,i < n -> ∃ R,oIx st V (.int i) = .ok R st /\ ∀ j,j <= n -> oIx st R (.int j) = .ok (.int (ent tb i j)) st
theorem TabLike.tab {n : Nat} {tb : List (List Int)} (z : Sz n tb) (st : Store) : TabLike st (tabV tb) n tb:=
  ⟨by simp [tabV,z.1],fun i hi=>⟨_,(cell_ix z hi (Nat.zero_le n) st).1,fun j hj=>(cell_ix z hi hj st).2⟩⟩
def lrF (tb : List (List Int)) (h i : Nat) : Int:=upto i fun o=>ent tb o h - if o ≠ h then ent tb h o else 0
theorem lrights_ok {st : Store} {V : PV} {n h : Nat} {tb : List (List Int)} (T : TabLike st V n tb) (hn : n <= 100) (hh : h < n) : F__law_b_rights [V,.int h] st = .ok (.int (lrF tb h n - ent tb h n)) st:=by
  have hn1 : -1000000 <= (n : Int) /\ (n : Int) <= 1000000:=by omega
  obtain ⟨Rh,h1,h2⟩:=T.row h hh
  have hln:=T.len
  obtain ⟨Γ',st',e,c',rfl,rfl⟩:=forG_inv (g:=fun k : Nat=>PV.int (k : Int)) (xs:=List.range n) (ga:=gaName 4) (body:=b__law_b_rights_1) (w:=[]) (Γ:=[some V,some (.int h),some (.int n),some (.int 0),none]) (st:=st)
    (fun i Γ st'=>∃ c',Γ = [some V,some (.int h),some (.int n),some (.int (lrF tb h i)),c'] /\ st' = st)
    (fun _ _ _ _=>by simp)
    (fun i o Γ st' hx ⟨c',e1,e2⟩=>by
      subst e1; subst e2
      have hin : i < n:=by simpa using (List.getElem?_eq_some_iff.mp hx).1
      have hxi : o = i:=by
        rw [List.getElem?_range hin] at hx
        exact (Option.some.inj hx).symm
      subst hxi
      obtain ⟨Ro,g1,g2⟩:=T.row o hin
      have g2:=g2 h (Nat.le_of_lt hh)
      have h2:=h2 o (Nat.le_of_lt hin)
      refine ⟨_,rfl,[some V,some (.int h),some (.int n),some (.int (lrF tb h (o + 1))),some (.int o)],st',?_,_,rfl,rfl⟩
      unfold lrF
      rw [upto_succ]
      generalize (upto o fun o=>ent tb o h - if o ≠ h then ent tb h o else 0) = x at *
      generalize ent tb o h = y at *
      generalize ent tb h o = y2 at *
      by_cases q : o = h
      · subst q
        simp -implicitDefEqProofs [b__law_b_rights_1,g1,g2]
      · have q' : ¬ ((o : Int) = h):=by omega
        have eqn : x + (y - y2) = x + y - y2:=by omega
        simp -implicitDefEqProofs [b__law_b_rights_1,g1,g2,q,q',h1,h2,eqn])
    ⟨none,rfl,rfl⟩
  rw [List.length_range] at e
  rw [<- rangeI0] at e
  have h2:=h2 n (Nat.le_refl n)
  generalize lrF tb h n = x at *
  generalize ent tb h n = y at *
  simp -implicitDefEqProofs [F__law_b_rights,callF,m__law_b_rights,hln,hn1,lim_eq,e,h1,h2]
theorem lr_eq {n h : Nat} {tb : List (List Int)} (z : Sz n tb) (hh : h < n) : lrF tb h n - ent tb h n = rightsF tb h:=by
  rw [rightsF_eq z hh]
  unfold lrF
  rw [upto_sub,upto_but (fun j=>ent tb h j) hh]
  omega
inductive Dd where
  | mk (h : Nat) (k : Int)
  | ld (h q : Nat) (k : Int)
  | us (h : Nat) (k : Int)
def Dd.h : Dd -> Nat
  | .mk h _=>h
  | .ld h _ _=>h
  | .us h _=>h
def Dd.k : Dd -> Int
  | .mk _ k=>k
  | .ld _ _ k=>k
  | .us _ k=>k
def Dd.pl (n : Nat) : Dd -> Nat
  | .mk h _=>h
  | .ld _ q _=>q
  | .us _ _=>n
def Dd.isM : Dd -> Bool
  | .mk _ _=>true
  | _=>false
def Dd.V : Dd -> PV
  | .mk h k=>.tup [.str "make",.int h,.int k]
  | .ld h q k=>.tup [.str "lend",.int h,.int q,.int k]
  | .us h k=>.tup [.str "use",.int h,.int k]
def Dd.ok (n : Nat) : Dd -> Prop
  | .mk h k=>h < n /\ 1 <= k
  | .ld h q k=>h < n /\ q < n /\ q ≠ h /\ 1 <= k
  | .us h k=>h < n /\ 1 <= k
theorem Dd.ok_h {n : Nat} {d : Dd} (o : d.ok n) : d.h < n:=by cases d <;> exact o.1
theorem Dd.ok_k {n : Nat} {d : Dd} (o : d.ok n) : 1 <= d.k:=by
  cases d with
  | mk h k=>exact o.2
  | ld h q k=>exact o.2.2.2
  | us h k=>exact o.2
theorem Dd.ok_pl {n : Nat} {d : Dd} (o : d.ok n) : d.pl n <= n:=by
  cases d with
  | mk h k=>exact Nat.le_of_lt o.1
  | ld h q k=>exact Nat.le_of_lt o.2.1
  | us h k=>exact Nat.le_refl n
theorem text_ok (x : Str) (ns : List Int) (hl : ns.length <= 100) (st : Store) : F_is_text_and_numbers [.tup (.str x :: ns.map .int)] st = .ok (.bl true) st:=by
  have c1 : cut (PV.str x :: ns.map .int) (some 1) none = ns.map .int:=cut_back _ 1
  have hc : compG (gaName 0) mTrue e_is_text_and_numbers_1 [] (capG [none] [some (.tup (.str x :: ns.map .int))]) (ns.map .int) st = .ok (ns.map fun _=>.bl true) st:=by
    refine compG_on _ _ (by simp) fun i _=>⟨_,rfl,?_⟩
    simp [capG,e_is_text_and_numbers_1,is_whole_int]
  have e : (ns.map fun _=>PV.bl true) = (ns.map fun _=>true).map PV.bl:=by rw [List.map_map]; rfl
  have ha : (ns.map fun _=>true).all id = true:=by simp
  have a0 : atI (PV.str x :: ns.map .int) 0 = some (.str x):=Sm.atI_get (show (PV.str x :: ns.map .int)[0]? = some (.str x) from rfl)
  have hll : (ns.map PV.int).length <= 1000000:=by rw [List.length_map]; omega
  rw [e] at hc
  have i1 : isI "tuple" (.tup (.str x :: ns.map .int)) = true:=rfl
  have i2 : isI "str" (.str x) = true:=rfl
  have hz : ¬ (((ns.map PV.int).length : Int) + 1 = 0):=by omega
  generalize (ns.map fun _=>true) = bs at *
  generalize ns.map PV.int = nv at *
  simp -implicitDefEqProofs [F_is_text_and_numbers,callF,m_is_text_and_numbers,i1,i2,a0,c1,hc,ha,lim_eq,hll,hz,-Bool.and_eq_true]
theorem str_ml : ¬ (Str.ofString "make" = Str.ofString "lend"):=by decide
theorem str_mu : ¬ (Str.ofString "make" = Str.ofString "use"):=by decide
theorem str_lm : ¬ (Str.ofString "lend" = Str.ofString "make"):=by decide
theorem str_lu : ¬ (Str.ofString "lend" = Str.ofString "use"):=by decide
theorem str_um : ¬ (Str.ofString "use" = Str.ofString "make"):=by decide
theorem str_ul : ¬ (Str.ofString "use" = Str.ofString "lend"):=by decide
theorem is_deed_ok {n : Nat} {d : Dd} (o : d.ok n) (st : Store) : F_is_deed [d.V] st = .ok (.bl true) st:=by
  have hk:=Dd.ok_k o
  cases d with
  | mk h k=>
    have t:=text_ok "make" [h,k] (by simp) st
    have a0 : atI [PV.str "make",.int h,.int k] 0 = some (.str "make"):=rfl
    have a1 : atI [PV.str "make",.int h,.int k] (-1) = some (.int k):=rfl
    have hk : (1 : Int) <= k:=hk
    have t : F_is_text_and_numbers [.tup [.str "make",.int h,.int k]] st = .ok (.bl true) st:=t
    unfold Dd.V
    simp -implicitDefEqProofs [F_is_deed,callF,m_is_deed,t,a0,a1,hk]
  | ld h q k=>
    have t:=text_ok "lend" [h,q,k] (by simp) st
    have a0 : atI [PV.str "lend",.int h,.int q,.int k] 0 = some (.str "lend"):=rfl
    have a1 : atI [PV.str "lend",.int h,.int q,.int k] (-1) = some (.int k):=rfl
    have hk : (1 : Int) <= k:=hk
    have t : F_is_text_and_numbers [.tup [.str "lend",.int h,.int q,.int k]] st = .ok (.bl true) st:=t
    unfold Dd.V
    simp -implicitDefEqProofs [F_is_deed,callF,m_is_deed,t,a0,a1,hk,str_lm]
  | us h k=>
    have t:=text_ok "use" [h,k] (by simp) st
    have a0 : atI [PV.str "use",.int h,.int k] 0 = some (.str "use"):=rfl
    have a1 : atI [PV.str "use",.int h,.int k] (-1) = some (.int k):=rfl
    have hk : (1 : Int) <= k:=hk
    have t : F_is_text_and_numbers [.tup [.str "use",.int h,.int k]] st = .ok (.bl true) st:=t
    unfold Dd.V
    simp -implicitDefEqProofs [F_is_deed,callF,m_is_deed,t,a0,a1,hk,str_um,str_ul]
theorem needh_ok {n : Nat} {tb : List (List Int)} (hn : tb.length = n) {d : Dd} (o : d.ok n) (st : Store) : F_need_houses_of_deed [tabV tb,d.V] st = .ok .non st:=by
  have b1 : cBls (fun ns=>.bl (ns.all id)) st [.lst [.bl true]] = .ok (.bl true) st:=cBls_lst _ st [true]
  have b2 : cBls (fun ns=>.bl (ns.all id)) st [.lst [.bl true,.bl true]] = .ok (.bl true) st:=cBls_lst _ st [true,true]
  have hh : ∀ i : Nat,i < n -> F_is_house [tabV tb,.int i] st = .ok (.bl true) st:=fun i hi=>by
    have:=is_house_ok (V:=tabV tb) (n:=n) (st:=st) (by simp [tabV,hn]) (i : Int)
    rw [show (decide ((0 : Int) <= (i : Int)) && decide ((i : Int) < (n : Int))) = true by simp; omega] at this
    exact this
  cases d with
  | mk h k=>
    have e:=hh h o.1
    have s1 : cut [PV.str "make",.int h,.int k] (some 1) (some (-1)) = [.int h]:=rfl
    have a0 : atI [PV.str "make",.int h,.int k] 0 = some (.str "make"):=rfl
    unfold Dd.V
    generalize tabV tb = T at *
    simp -implicitDefEqProofs [F_need_houses_of_deed,callF,m_need_houses_of_deed,s1,a0,compG,gaName,mTrue,capG,e_need_houses_of_deed_1,b1,b2,e,lim_eq,str_ml]
  | ld h q k=>
    have e:=hh h o.1
    have e2:=hh q o.2.1
    have s1 : cut [PV.str "lend",.int h,.int q,.int k] (some 1) (some (-1)) = [.int h,.int q]:=rfl
    have a0 : atI [PV.str "lend",.int h,.int q,.int k] 0 = some (.str "lend"):=rfl
    have a1 : atI [PV.int (h : Int),.int q] 0 = some (.int h):=rfl
    have a2 : atI [PV.int (h : Int),.int q] 1 = some (.int q):=rfl
    have hne : ((h : Int) == (q : Int)) = false:=by rw [beq_eq_false_iff_ne]; have:=o.2.2.1; omega
    have hne' : ¬ ((h : Int) = (q : Int)):=by have:=o.2.2.1; omega
    unfold Dd.V
    generalize tabV tb = T at *
    simp -implicitDefEqProofs [F_need_houses_of_deed,callF,m_need_houses_of_deed,s1,a0,a1,a2,compG,gaName,mTrue,capG,e_need_houses_of_deed_1,b1,b2,e,e2,lim_eq,hne,hne']
  | us h k=>
    have e:=hh h o.1
    have s1 : cut [PV.str "use",.int h,.int k] (some 1) (some (-1)) = [.int h]:=rfl
    have a0 : atI [PV.str "use",.int h,.int k] 0 = some (.str "use"):=rfl
    unfold Dd.V
    generalize tabV tb = T at *
    simp -implicitDefEqProofs [F_need_houses_of_deed,callF,m_need_houses_of_deed,s1,a0,compG,gaName,mTrue,capG,e_need_houses_of_deed_1,b1,b2,e,lim_eq,str_ul]
theorem place_ok {n : Nat} {tb : List (List Int)} (hn : tb.length = n) {d : Dd} (o : d.ok n) (st : Store) : F_place_in_row [tabV tb,d.V] st = .ok (.int (d.pl n)) st:=by
  cases d with
  | mk h k=>
    have a0 : atI [PV.str "make",.int h,.int k] 0 = some (.str "make"):=rfl
    have a1 : atI [PV.str "make",.int h,.int k] 1 = some (.int h):=rfl
    unfold Dd.V Dd.pl
    generalize tabV tb = T at *
    simp -implicitDefEqProofs [F_place_in_row,callF,m_place_in_row,a0,a1]
  | ld h q k=>
    have a0 : atI [PV.str "lend",.int h,.int q,.int k] 0 = some (.str "lend"):=rfl
    have a1 : atI [PV.str "lend",.int h,.int q,.int k] 2 = some (.int q):=rfl
    unfold Dd.V Dd.pl
    generalize tabV tb = T at *
    simp -implicitDefEqProofs [F_place_in_row,callF,m_place_in_row,a0,a1,str_lm]
  | us h k=>
    have a0 : atI [PV.str "use",.int h,.int k] 0 = some (.str "use"):=rfl
    have hl : (tb.map rowV).length = n:=by rw [List.length_map]; exact hn
    unfold Dd.V Dd.pl tabV
    generalize tb.map rowV = T at *
    simp -implicitDefEqProofs [F_place_in_row,callF,m_place_in_row,a0,hl,str_um,str_ul]
def Dd.fits (tb : List (List Int)) (d : Dd) : Bool:=d.isM || decide (d.k <= rightsF tb d.h)
def Dd.put (n : Nat) (tb : List (List Int)) (d : Dd) : List (List Int):=putT tb d.h (d.pl n) (ent tb d.h (d.pl n) + d.k)
theorem Dd.a0 (d : Dd) (st : Store) : ∃ w : Str,oIx st d.V (.int 0) = .ok (.str w) st /\ (w = "make" <-> d.isM = true):=by
  cases d with
  | mk h k=>exact ⟨"make",rfl,by simp [Dd.isM]⟩
  | ld h q k=>exact ⟨"lend",rfl,by simp [Dd.isM,str_lm]⟩
  | us h k=>exact ⟨"use",rfl,by simp [Dd.isM,str_um]⟩
theorem Dd.a1 (d : Dd) (st : Store) : oIx st d.V (.int 1) = .ok (.int d.h) st:=by cases d <;> rfl
theorem Dd.al (d : Dd) (st : Store) : oIx st d.V (.int (-1)) = .ok (.int d.k) st:=by cases d <;> rfl
theorem done_key {n : Nat} {tb : List (List Int)} (w : Wt' n tb) {d : Dd} (o : d.ok n) (st : Store) : F_done [tabV tb,d.V] st = if d.fits tb = true then .ok (tabV (d.put n tb)) st else .exc ⟨"Short",some ("had",.int (rightsF tb d.h))⟩ st:=by
  have h8:=w.n8
  have e1:=is_deed_ok o st
  have e2:=needh_ok w.len o st
  have e3:=rights_ok w.sz (by omega) (Dd.ok_h o) st
  have e4:=place_ok w.len o st
  have e5:=raised_ok w.sz (by omega) (Dd.ok_h o) (Dd.ok_pl o) d.k st
  obtain ⟨x,e6,hx⟩:=d.a0 st
  have e7:=d.a1 st
  have e8:=d.al st
  have hpre : st <+: st:=List.prefix_refl _
  have hf : fin st (tabV (d.put n tb)) st = .ok (tabV (d.put n tb)) st:=fin_good (by simp [good,tabV,rowV])
  have hfx : finX st ⟨"Short",some ("had",.int (rightsF tb d.h))⟩ st = .exc ⟨"Short",some ("had",.int (rightsF tb d.h))⟩ st:=by simp [finX,fz]
  unfold Dd.put Dd.fits at *
  generalize tabV (putT tb d.h (d.pl n) (ent tb d.h (d.pl n) + d.k)) = V2 at *
  generalize rightsF tb d.h = r at *
  generalize tabV tb = T at *
  generalize d.V = DV at *
  generalize (d.pl n : Int) = pl at *
  generalize d.k = k at *
  cases hm : d.isM with
  | true=>
    have hx : x = "make" := hx.mpr hm
    subst hx
    simp -implicitDefEqProofs [F_done,callF,m_done,e1,e2,e4,e5,e6,e7,e8,hf]
  | false=>
    have hx' : ¬ x = "make" := fun z=>by rw [hx.mp z] at hm; cases hm
    by_cases hk : k <= r
    · have hk' : ¬ r < k:=by omega
      simp -implicitDefEqProofs [F_done,callF,m_done,e1,e2,e3,e4,e5,e6,e7,e8,hf,hx',hk,hk']
    · have hk' : r < k:=by omega
      simp -implicitDefEqProofs [F_done,callF,m_done,e1,e2,e3,e6,e7,e8,hfx,hx',hk,hk']
def entI (d : Int) : Int:=if d % 8 < 3 then 0 else if d % 8 < 6 then d / 8 % 4 else if d % 8 = 6 then d / 8 % 100 else d / 8 % 10000000000000000000000000000
theorem entI_nn (d : Int) : 0 <= entI d:=by
  have h1:=(emod_lt (d / 8) (b:=4) (by decide)).1
  have h2:=(emod_lt (d / 8) (b:=100) (by decide)).1
  have h28:=(emod_lt (d / 8) (b:=10000000000000000000000000000) (by omega)).1
  unfold entI
  split
  · omega
  · split
    · omega
    · split <;> omega
theorem entry_ok (d : Int) (st : Store) : F__law_b_entry [.int d] st = .ok (.int (entI d)) st:=by
  unfold entI
  by_cases h3 : d % 8 < 3
  · simp [F__law_b_entry,callF,m__law_b_entry,h3]
  · by_cases h6 : d % 8 < 6
    · simp [F__law_b_entry,callF,m__law_b_entry,h3,h6]
    · by_cases h7 : d % 8 = 6
      · simp [F__law_b_entry,callF,m__law_b_entry,h7]
      · simp [F__law_b_entry,callF,m__law_b_entry,h3,h6,h7]
def rowI (ns : List Int) (n a i : Nat) : List Int:=(List.range (n + 1)).map fun j=>entI (drawI ns (a + i * (n + 1) + j))
theorem row_ok8 (ns : List Int) (n a i : Nat) (st : Store) (hn : n <= 8) (hi : i < n) (ha : a <= 10) (Γ : Gam) (h0 : Γ[0]? = some (some (.fro (ns.map .int)))) (h1 : Γ[1]? = some (some (.int n))) (h2 : Γ[2]? = some (some (.int a))) (h4 : Γ[4]? = some (some (.int i))) :
    compG (gaName 0) mTrue e__law_b_table_1 [] (capG [none,some 0,some 2,some 4,some 1] Γ) (rangeI 0 (n + 1)) st = .ok ((rowI ns n a i).map .int) st:=by
  rw [rangeI0]
  unfold rowI
  rw [List.map_map]
  refine compG_on _ _ (by simp) fun j hj=>⟨_,rfl,?_⟩
  have hj' : j < n + 1:=List.mem_range.mp hj
  have e : (a : Int) + i * (n + 1) + j = ((a + i * (n + 1) + j : Nat) : Int):=by push_cast; rfl
  have hb : -18446744073709551616 < (i : Int) /\ (i : Int) < 18446744073709551616:=by omega
  have hd:=draw_ok ns (a + i * (n + 1) + j) st (by
    have : i * (n + 1) <= 8 * 9:=Nat.mul_le_mul (by omega) (by omega)
    omega)
  rw [<- e] at hd
  simp -implicitDefEqProofs [capG,e__law_b_table_1,h0,h1,h2,h4,hb,hd]
  exact entry_ok _ _
theorem table_ok8 (ns : List Int) {n : Nat} (h1 : 1 <= n) (h8 : n <= 8) : ∃ tb,Wt' n tb /\ F__law_b_table [.fro (ns.map .int),.int n,.int 1] [] = .ok (tabV tb) []:=by
  have hn1 : -1000000 <= (n : Int) /\ (n : Int) <= 1000000:=by omega
  have hn2 : -1000000 <= (n : Int) + 1 /\ (n : Int) + 1 <= 1000000:=by omega
  obtain ⟨Γ',st',e,c',rfl,rfl⟩:=forG_inv (g:=fun k : Nat=>PV.int (k : Int)) (xs:=List.range n) (ga:=gaName 4) (body:=b__law_b_table_1) (w:=[]) (Γ:=[some (.fro (ns.map .int)),some (.int n),some (.int 1),some (.ref 0),none]) (st:=[.lst []])
    (fun i Γ st'=>∃ c',Γ = [some (.fro (ns.map .int)),some (.int n),some (.int 1),some (.ref 0),c'] /\ st' = [.lst (((List.range i).map fun i=>rowI ns n 1 i).map rowV)])
    (fun _ _ _ _=>by simp)
    (fun i x Γ st' hx ⟨c',e1,e2⟩=>by
      subst e1; subst e2
      have hin : i < n:=by simpa using (List.getElem?_eq_some_iff.mp hx).1
      have hxi : x = i:=by
        rw [List.getElem?_range hin] at hx
        exact (Option.some.inj hx).symm
      subst hxi
      refine ⟨_,rfl,[some (.fro (ns.map .int)),some (.int n),some (.int 1),some (.ref 0),some (.int x)],_,?_,_,rfl,rfl⟩
      have hro:=row_ok8 ns n 1 x [.lst (((List.range x).map fun i=>rowI ns n 1 i).map rowV)] h8 hin (by omega) [some (.fro (ns.map .int)),some (.int n),some (.int 1),some (.ref 0),some (.int x)] rfl rfl rfl rfl
      have e3 : ((List.range (x + 1)).map fun i=>rowI ns n 1 i).map rowV = ((List.range x).map fun i=>rowI ns n 1 i).map rowV ++ [.tup ((rowI ns n 1 x).map .int)]:=by
        rw [List.range_succ,List.map_append,List.map_append]; rfl
      rw [e3]
      have hl : (((List.range x).map fun i=>rowI ns n 1 i).map rowV).length < 1000000:=by simp; omega
      have hrl : ((rowI ns n 1 x).map PV.int).length <= 1000000:=by simp [rowI]; omega
      generalize (rowI ns n 1 x).map PV.int = ys at *
      generalize ((List.range x).map fun i=>rowI ns n 1 i).map rowV = rs at *
      simp -implicitDefEqProofs [b__law_b_table_1,lim_eq,hn2,hro,mtAppend,chg,hl,hrl])
    ⟨none,rfl,rfl⟩
  rw [List.length_range] at e
  rw [<- rangeI0] at e
  refine ⟨(List.range n).map fun i=>rowI ns n 1 i,⟨by simp,fun r hr=>?_,fun r hr x hx=>?_,h1,h8⟩,?_⟩
  · obtain ⟨i,_,rfl⟩:=List.mem_map.mp hr
    simp [rowI]
  · obtain ⟨i,_,rfl⟩:=List.mem_map.mp hr
    obtain ⟨j,_,rfl⟩:=List.mem_map.mp hx
    exact entI_nn _
  · have hll : (((List.range n).map fun i=>rowI ns n 1 i).map rowV).length <= 1000000:=by simp; omega
    have hT : PV.tup (((List.range n).map fun i=>rowI ns n 1 i).map rowV) = tabV ((List.range n).map fun i=>rowI ns n 1 i):=rfl
    have hf : ∀ S,fin [] (tabV ((List.range n).map fun i=>rowI ns n 1 i)) S = .ok (tabV ((List.range n).map fun i=>rowI ns n 1 i)) []:=fun S=>by
      have:=fin_goodA (st:=[]) (more:=S) (v:=tabV ((List.range n).map fun i=>rowI ns n 1 i)) (by simp [good,tabV,rowV])
      rwa [List.nil_append] at this
    rw [<- hT] at hf ⊢
    generalize ((List.range n).map fun i=>rowI ns n 1 i).map rowV = rs at *
    simp -implicitDefEqProofs [F__law_b_table,callF,m__law_b_table,lim_eq,hn1,e,hf,hll]
theorem pick_lst {α : Type} (g : α -> PV) (xs : List α) (d : α) (z : Int) (hl : 0 < xs.length) (st : Store) : ∃ i : Nat,i < xs.length /\ z % (xs.length : Int) = i /\ oIx st (.lst (xs.map g)) (.int i) = .ok (g (xs.getD i d)) st:=by
  have hm:=emod_lt z (b:=(xs.length : Int)) (by omega)
  obtain ⟨i,hi,ei⟩ : ∃ i : Nat,i < xs.length /\ z % (xs.length : Int) = i:=⟨(z % (xs.length : Int)).toNat,by omega,by omega⟩
  refine ⟨i,hi,ei,?_⟩
  have : (xs.map g)[i]? = some (g (xs.getD i d)):=by rw [List.getElem?_map,getD_some hi d]; rfl
  rw [oIx_lst,Sm.atI_get this]; rfl
theorem house8 (n : Nat) (h8 : n <= 8) (d : Int) (st : Store) : ∃ z,F__law_b_house [.int n,.int d] st = .ok (.int z) st:=by
  have hp1 : (0 : Int) < (n : Int) + 2:=by omega
  have hp2 : (n : Int) + 2 < 1073741824:=by omega
  by_cases q : d % 9 = 8
  · exact ⟨_,by simp -implicitDefEqProofs [F__law_b_house,callF,m__law_b_house,q]; rfl⟩
  · exact ⟨_,by simp -implicitDefEqProofs [F__law_b_house,callF,m__law_b_house,q,hp1,hp2]; rfl⟩
abbrev tpΓ (T : PV) (d : Int) (n : Nat) (wd : Str) (m : Int) (p : Nat) (b6 b7 : Option PV) : Gam:=[some T,some (.int d),some (.int n),some (.str wd),some (.int m),some (.ref p),b6,b7]
theorem tuple_ok {n : Nat} {tb : List (List Int)} (w : Wt' n tb) (d : Int) (st : Store) : ∃ (wd : Str) (ps : List Int),ps.length <= 4 /\ F__law_b_tuple [tabV tb,.int d] st = .ok (.tup (.str wd :: ps.map .int)) st:=by
  have h8:=w.n8
  have h1:=w.n1
  have hln : cLen st [tabV tb] = .ok (.int n) st:=by simp [tabV,w.len]
  obtain ⟨i9,hi9,ei9,e9⟩:=pick_lst PV.str ["make", "lend", "use", "make", "lend", "use", "give", "Make", ""] "" d (by simp) st
  have ei9 : d % 9 = i9:=ei9
  have e9 : oIx st (.lst [.str "make",.str "lend",.str "use",.str "make",.str "lend",.str "use",.str "give",.str "Make",.str ""]) (.int i9) = _:=e9
  obtain ⟨wd,hwd⟩ : ∃ wd : Str,(["make", "lend", "use", "make", "lend", "use", "give", "Make", ""] : List Str).getD i9 "" = wd:=⟨_,rfl⟩
  rw [hwd] at e9
  obtain ⟨d1,hd1⟩ : ∃ d1,d / 9 = d1:=⟨_,rfl⟩
  obtain ⟨i8,hi8,ei8,e8⟩:=pick_lst PV.int [2,2,2,0,1,3,4,2] 0 d1 (by simp) st
  have ei8 : d1 % 8 = i8:=ei8
  have e8 : oIx st (.lst [.int 2,.int 2,.int 2,.int 0,.int 1,.int 3,.int 4,.int 2]) (.int i8) = _:=e8
  obtain ⟨m0,hm0⟩ : ∃ m0 : Int,([2,2,2,0,1,3,4,2] : List Int).getD i8 0 = m0:=⟨_,rfl⟩
  rw [hm0] at e8
  have hm04 : 0 <= m0 /\ m0 <= 4:=by
    have : m0 ∈ ([2,2,2,0,1,3,4,2] : List Int):=by
      rw [<- hm0]
      have:=getD_some (show i8 < ([2,2,2,0,1,3,4,2] : List Int).length from hi8) 0
      exact List.mem_of_getElem? this
    simp only [List.mem_cons,List.not_mem_nil,or_false] at this
    omega
  obtain ⟨d2,hd2⟩ : ∃ d2,d1 / 8 = d2:=⟨_,rfl⟩
  obtain ⟨m,hm4,s1⟩ : ∃ m : Nat,m <= 4 /\ ∀ X : MS,(mSeqS (mSet 2 (mCall cLen (mCons (mVar 0) mNil)))
    (mSeqS (mSet 3 (mOp oIx (mLst (mCons (mC (.str "make")) (mCons (mC (.str "lend")) (mCons (mC (.str "use")) (mCons (mC (.str "make")) (mCons (mC (.str "lend")) (mCons (mC (.str "use")) (mCons (mC (.str "give")) (mCons (mC (.str "Make")) (mCons (mC (.str "")) mNil)))))))))) (mOp oMod (mVar 1) (mC (.int 9)))))
    (mSeqS (mSet 1 (mOp oDiv (mVar 1) (mC (.int 9))))
    (mSeqS (mSet 4 (mOp oIx (mLst (mCons (mC (.int 2)) (mCons (mC (.int 2)) (mCons (mC (.int 2)) (mCons (mC (.int 0)) (mCons (mC (.int 1)) (mCons (mC (.int 3)) (mCons (mC (.int 4)) (mCons (mC (.int 2)) mNil))))))))) (mOp oMod (mVar 1) (mC (.int 8)))))
    (mSeqS (mIfS (tAndM (toB (mOp oEq (mVar 3) (mC (.str "lend")))) (toB (mOp oLt (mOp oMod (mVar 1) (mC (.int 8))) (mC (.int 3))))) (mSet 4 (mC (.int 3))) mNext)
    (mSeqS (mSet 1 (mOp oDiv (mVar 1) (mC (.int 8))))
    (mSeqS (mSet 5 (mTrk (mLstN mNil))) X))))))) [some (tabV tb),some (.int d),none,none,none,none,none,none] st = X (tpΓ (tabV tb) d2 n wd m st.length none none) (st ++ [.lst []]):=by
    by_cases q1 : wd = "lend"
    · by_cases q2 : d1 % 8 < 3
      · refine ⟨3,by omega,fun X=>?_⟩
        have q2' : (i8 : Int) < 3:=by omega
        have q2n : i8 < 3:=by omega
        unfold tpΓ
        generalize tabV tb = T at *
        simp -implicitDefEqProofs [hln,lim_eq,ei9,e9,hd1,ei8,e8,hd2,q1,q2',q2n,-oIx_lst]
      · obtain ⟨m,em⟩ : ∃ m : Nat,m0 = m:=⟨m0.toNat,by omega⟩
        have q2' : ¬ (i8 : Int) < 3:=by omega
        have q2n : ¬ i8 < 3:=by omega
        rw [em] at e8
        refine ⟨m,by omega,fun X=>?_⟩
        unfold tpΓ
        generalize tabV tb = T at *
        simp -implicitDefEqProofs [hln,lim_eq,ei9,e9,hd1,ei8,e8,hd2,q1,q2',q2n,-oIx_lst]
    · obtain ⟨m,em⟩ : ∃ m : Nat,m0 = m:=⟨m0.toNat,by omega⟩
      rw [em] at e8
      refine ⟨m,by omega,fun X=>?_⟩
      unfold tpΓ
      generalize tabV tb = T at *
      simp -implicitDefEqProofs [hln,lim_eq,ei9,e9,hd1,ei8,e8,hd2,q1,-oIx_lst]
  obtain ⟨Γ',S',e,b6,d3,ps,hpl,rfl,rfl⟩:=forG_inv (g:=fun k : Nat=>PV.int (k : Int)) (xs:=List.range m) (ga:=gaName 6) (body:=b__law_b_tuple_1) (w:=[]) (Γ:=tpΓ (tabV tb) d2 n wd m st.length none none) (st:=st ++ [.lst []])
    (fun i Γ st'=>∃ b6 d3 ps,ps.length = i /\ Γ = tpΓ (tabV tb) d3 n wd m st.length b6 none /\ st' = st ++ [.lst (ps.map PV.int)])
    (fun _ _ _ _=>by simp)
    (fun i k Γ st' hx ⟨b6,d3,ps,hpl,e1,e2⟩=>by
      subst e1; subst e2
      have hin : i < m:=by simpa using (List.getElem?_eq_some_iff.mp hx).1
      obtain ⟨z,hz⟩:=house8 n h8 d3 (st ++ [.lst (ps.map PV.int)])
      refine ⟨_,rfl,tpΓ (tabV tb) (d3 / 81) n wd m st.length (some (.int k)) none,st ++ [.lst ((ps ++ [z]).map PV.int)],?_,_,_,ps ++ [z],by simp [hpl],rfl,rfl⟩
      have hL : (st ++ [Cell.lst (ps.map PV.int)])[st.length]? = some (.lst (ps.map PV.int)):=by simp
      have hll : (ps.map PV.int).length < 1000000:=by rw [List.length_map]; omega
      have es : (st ++ [Cell.lst (ps.map PV.int)]).set st.length (.lst (ps.map PV.int ++ [.int z])) = st ++ [.lst ((ps ++ [z]).map PV.int)]:=by
        rw [List.set_append_right _ _ (Nat.le_refl _),Nat.sub_self,List.map_append]; rfl
      unfold tpΓ
      generalize st ++ [Cell.lst ((ps ++ [z]).map PV.int)] = S2 at *
      generalize st ++ [Cell.lst (ps.map PV.int)] = S1 at *
      generalize ps.map PV.int = pv at *
      generalize st.length = P at *
      generalize tabV tb = T at *
      simp -implicitDefEqProofs [b__law_b_tuple_1,hz,hL,mtAppend,chg,hll,lim_eq,es])
    ⟨_,_,[],rfl,rfl,rfl⟩
  rw [List.length_range] at hpl
  rw [<- rangeI0] at e
  have hm1 : -1000000 <= (m : Int) /\ (m : Int) <= 1000000:=by omega
  have s2 : mFor (gaName 6) (mRange1 (mCons (mVar 4) mNil)) b__law_b_tuple_1 (tpΓ (tabV tb) d2 n wd m st.length none none) (st ++ [.lst []]) = .nx (tpΓ (tabV tb) d3 n wd m st.length b6 none) (st ++ [.lst (ps.map PV.int)]):=by
    unfold tpΓ at *
    generalize st ++ [Cell.lst (ps.map PV.int)] = S2 at *
    generalize tabV tb = T at *
    simp -implicitDefEqProofs [hm1,lim_eq,e]
  have hL : (st ++ [Cell.lst (ps.map PV.int)])[st.length]? = some (.lst (ps.map PV.int)):=by simp
  obtain ⟨ps',b7,more,hpl',s3⟩ : ∃ (ps' : List Int) (b7 : Option PV) (more : Store),ps'.length = ps.length /\ (mIfS (toB (mOp oNe (mVar 5) (mLst mNil))) (mSeqS (mSet 7 (mTrk (mLstN (mCons (mOp (oI fun a b=>.int (a - b)) (mOp oMod (mVar 1) (mC (.int 5))) (mC (.int 1))) (mCons (mOp (oI fun a b=>.int (a - b)) (mOp oMod (mVar 1) (mC (.int 5))) (mC (.int 1))) (mCons (mC (.int 1)) (mCons (mOp oMod (mVar 1) (mOp oPow (mC (.int 10)) (mC (.int 20)))) (mCons (mC (.int 1)) mNil))))))))
    (mSeqS (mIfS (toB (mChain (oI fun a b=>.bl (decide (a <= b))) oLt (mC (.int 0)) (mOp oIx (mVar 5) (mC (.int 0))) (mVar 2))) (mSetIx (mVar 7) (mC (.int 4)) (mOp oAdd (mCallF 2 F__law_b_rights (mCons (mVar 0) (mCons (mOp oIx (mVar 5) (mC (.int 0))) mNil))) (mOp oMod (mOp oDiv (mVar 1) (mC (.int 5))) (mC (.int 2))))) mNext)
    (mSetIx (mVar 5) (mNeg (mC (.int 1))) (mOp oIx (mVar 7) (mOp oMod (mOp oDiv (mVar 1) (mC (.int 10))) (mC (.int 5))))))) mNext) (tpΓ (tabV tb) d3 n wd m st.length b6 none) (st ++ [.lst (ps.map PV.int)]) = .nx (tpΓ (tabV tb) d3 n wd m st.length b6 b7) (st ++ [.lst (ps'.map PV.int)] ++ more):=by
    cases hps : ps with
    | nil=>
      subst hps
      refine ⟨[],none,[],rfl,?_⟩
      have hne : oNe (st ++ [Cell.lst (([] : List Int).map PV.int)]) (.ref st.length) (.lst []) = .ok (.bl false) (st ++ [Cell.lst (([] : List Int).map PV.int)]):=by
        simp [oNe,der,good,dep,peq,peqL]
      rw [List.append_nil]
      unfold tpΓ
      generalize st ++ [Cell.lst (([] : List Int).map PV.int)] = S1 at *
      generalize st.length = P at *
      generalize tabV tb = T at *
      simp -implicitDefEqProofs [hne,-oNe_int]
    | cons a rs=>
      rw [hps] at hL hpl
      have hne : oNe (st ++ [Cell.lst ((a :: rs).map PV.int)]) (.ref st.length) (.lst []) = .ok (.bl true) (st ++ [Cell.lst ((a :: rs).map PV.int)]):=by
        simp [oNe,der,good,dep,peq,peqL]
      obtain ⟨S1,hS1⟩ : ∃ S1,st ++ [Cell.lst ((a :: rs).map PV.int)] = S1:=⟨_,rfl⟩
      have hl1 : S1.length = st.length + 1:=by rw [<- hS1]; simp
      rw [hS1] at hL hne ⊢
      obtain ⟨x1,hx1⟩ : ∃ x1,d3 % 5 - 1 = x1:=⟨_,rfl⟩
      obtain ⟨x3,hx3⟩ : ∃ x3,d3 % 100000000000000000000 = x3:=⟨_,rfl⟩
      obtain ⟨S2,hS2⟩ : ∃ S2,S1 ++ [Cell.lst ([x1,x1,1,x3,1].map PV.int)] = S2:=⟨_,rfl⟩
      have s7 : mSet 7 (mTrk (mLstN (mCons (mOp (oI fun a b=>.int (a - b)) (mOp oMod (mVar 1) (mC (.int 5))) (mC (.int 1))) (mCons (mOp (oI fun a b=>.int (a - b)) (mOp oMod (mVar 1) (mC (.int 5))) (mC (.int 1))) (mCons (mC (.int 1)) (mCons (mOp oMod (mVar 1) (mOp oPow (mC (.int 10)) (mC (.int 20)))) (mCons (mC (.int 1)) mNil))))))) (tpΓ (tabV tb) d3 n wd m st.length b6 none) S1 = .nx (tpΓ (tabV tb) d3 n wd m st.length b6 (some (.ref (st.length + 1)))) S2:=by
        have hS2 : S1 ++ [Cell.lst [.int x1,.int x1,.int 1,.int x3,.int 1]] = S2:=hS2
        rw [<- hl1]
        unfold tpΓ
        generalize tabV tb = T at *
        simp -implicitDefEqProofs [hx1,hx3,lim_eq,hS2]
      have hL2 : S2[st.length + 1]? = some (.lst ([x1,x1,1,x3,1].map PV.int)):=by rw [<- hS2,<- hl1]; simp
      have hP2 : S2[st.length]? = some (.lst ((a :: rs).map PV.int)):=by rw [<- hS2,List.getElem?_append_left (by omega)]; exact hL
      have c0 : oIx S2 (.ref st.length) (.int 0) = .ok (.int a) S2:=by
        have hLA : ListAt S2 (.ref st.length) ((a :: rs).map PV.int):=.inr (.inr ⟨_,rfl,hP2⟩)
        have:=Sm.atI_get (show ((a :: rs).map PV.int)[0]? = some (.int a) from rfl)
        rw [show ((0 : Nat) : Int) = 0 from rfl] at this
        rw [hLA.ix,this]; rfl
      obtain ⟨L5,hl5,s8⟩ : ∃ L5 : List Int,L5.length = 5 /\ (mIfS (toB (mChain (oI fun a b=>.bl (decide (a <= b))) oLt (mC (.int 0)) (mOp oIx (mVar 5) (mC (.int 0))) (mVar 2))) (mSetIx (mVar 7) (mC (.int 4)) (mOp oAdd (mCallF 2 F__law_b_rights (mCons (mVar 0) (mCons (mOp oIx (mVar 5) (mC (.int 0))) mNil))) (mOp oMod (mOp oDiv (mVar 1) (mC (.int 5))) (mC (.int 2))))) mNext) (tpΓ (tabV tb) d3 n wd m st.length b6 (some (.ref (st.length + 1)))) S2 = .nx (tpΓ (tabV tb) d3 n wd m st.length b6 (some (.ref (st.length + 1)))) (S1 ++ [.lst (L5.map PV.int)]):=by
        by_cases q1 : 0 <= a
        · by_cases q2 : a < (n : Int)
          · obtain ⟨h,rfl⟩ : ∃ h : Nat,a = h:=⟨a.toNat,by omega⟩
            have hr:=lrights_ok (TabLike.tab w.sz S2) (by omega) (show h < n by omega)
            obtain ⟨rr,hrr⟩ : ∃ rr,lrF tb h n - ent tb h n = rr:=⟨_,rfl⟩
            rw [hrr] at hr
            obtain ⟨x5,hx5⟩ : ∃ x5,rr + d3 / 5 % 2 = x5:=⟨_,rfl⟩
            have hset : setIx S2 (.ref (st.length + 1)) (.int 4) (.int x5) = some (S1 ++ [.lst ([x1,x1,1,x3,x5].map PV.int)]):=by
              have e4 : ixN ([x1,x1,1,x3,1].map PV.int).length 4 = some 4:=rfl
              unfold setIx
              simp only [hL2,e4,Option.map_some]
              rw [<- hS2,<- hl1,List.set_append_right _ _ (Nat.le_refl _),Nat.sub_self]; rfl
            refine ⟨[x1,x1,1,x3,x5],rfl,?_⟩
            have q2n : h < n:=by omega
            unfold tpΓ
            generalize S1 ++ [Cell.lst ([x1,x1,1,x3,x5].map PV.int)] = S3 at *
            generalize st.length = P at *
            generalize tabV tb = T at *
            simp -implicitDefEqProofs [c0,q1,q2,q2n,hr,hx5,hset,-oIx_r,-setIx_r]
          · refine ⟨[x1,x1,1,x3,1],rfl,?_⟩
            rw [hS2]
            unfold tpΓ
            generalize st.length = P at *
            generalize tabV tb = T at *
            simp -implicitDefEqProofs [c0,q1,q2,-oIx_r]
        · refine ⟨[x1,x1,1,x3,1],rfl,?_⟩
          rw [hS2]
          unfold tpΓ
          generalize st.length = P at *
          generalize tabV tb = T at *
          simp -implicitDefEqProofs [c0,q1,-oIx_r]
      obtain ⟨S3,hS3⟩ : ∃ S3,S1 ++ [Cell.lst (L5.map PV.int)] = S3:=⟨_,rfl⟩
      rw [hS3] at s8
      have hL3 : S3[st.length + 1]? = some (.lst (L5.map PV.int)):=by rw [<- hS3,<- hl1]; simp
      have hP3 : S3[st.length]? = some (.lst ((a :: rs).map PV.int)):=by rw [<- hS3,List.getElem?_append_left (by omega)]; exact hL
      have hm5:=emod_lt (d3 / 10) (b:=5) (by decide)
      obtain ⟨i5,hi5,ei5⟩ : ∃ i5 : Nat,i5 < 5 /\ d3 / 10 % 5 = i5:=⟨(d3 / 10 % 5).toNat,by omega,by omega⟩
      have c7 : oIx S3 (.ref (st.length + 1)) (.int i5) = .ok (.int (L5.getD i5 0)) S3:=by
        have hLA : ListAt S3 (.ref (st.length + 1)) (L5.map PV.int):=.inr (.inr ⟨_,rfl,hL3⟩)
        rw [hLA.ix,Sm.atI_get (show (L5.map PV.int)[i5]? = some (.int (L5.getD i5 0)) by rw [List.getElem?_map,getD_some (by omega) 0]; rfl)]; rfl
      generalize L5.getD i5 0 = v at *
      have hset : setIx S3 (.ref st.length) (.int (-1)) (.int v) = some (st ++ [.lst (((a :: rs).set rs.length v).map PV.int)] ++ [.lst (L5.map PV.int)]):=by
        have e4 : ixN ((a :: rs).map PV.int).length (-1) = some rs.length:=by
          unfold ixN
          rw [if_neg (by decide),List.length_map,List.length_cons,if_pos (by omega)]
          congr 1
          omega
        unfold setIx
        simp only [hP3,e4,Option.map_some]
        rw [<- hS3,<- hS1,List.append_assoc,List.set_append_right _ _ (Nat.le_refl _),Nat.sub_self,List.append_assoc,List.map_set]; rfl
      refine ⟨(a :: rs).set rs.length v,some (.ref (st.length + 1)),[.lst (L5.map PV.int)],by simp,?_⟩
      have s9 : mSetIx (mVar 5) (mNeg (mC (.int 1))) (mOp oIx (mVar 7) (mOp oMod (mOp oDiv (mVar 1) (mC (.int 10))) (mC (.int 5)))) (tpΓ (tabV tb) d3 n wd m st.length b6 (some (.ref (st.length + 1)))) S3 = .nx (tpΓ (tabV tb) d3 n wd m st.length b6 (some (.ref (st.length + 1)))) (st ++ [.lst (((a :: rs).set rs.length v).map PV.int)] ++ [.lst (L5.map PV.int)]):=by
        unfold tpΓ
        generalize st ++ [Cell.lst (((a :: rs).set rs.length v).map PV.int)] ++ [.lst (L5.map PV.int)] = S4 at *
        generalize st.length = P at *
        generalize tabV tb = T at *
        simp -implicitDefEqProofs [ei5,c7,hset,-oIx_r,-setIx_r]
      have t0 : (toB (mOp oNe (mVar 5) (mLst mNil))) (tpΓ (tabV tb) d3 n wd m st.length b6 none) S1 = .ok true S1:=by
        unfold tpΓ
        generalize st.length = P at *
        generalize tabV tb = T at *
        simp -implicitDefEqProofs [hne,-oNe_int]
      rw [mIfS_eq,t0,sbind_ok,if_pos rfl,mSeqS_eq,s7]
      show mSeqS _ _ _ _ = _
      rw [mSeqS_eq,s8]
      exact s9
  refine ⟨wd,ps',by omega,?_⟩
  have hP4 : (st ++ [Cell.lst (ps'.map PV.int)] ++ more)[st.length]? = some (.lst (ps'.map PV.int)):=by
    rw [List.append_assoc,List.getElem?_append_right (Nat.le_refl _),Nat.sub_self]; rfl
  have hf : fin st (.tup (.str wd :: ps'.map .int)) (st ++ [Cell.lst (ps'.map PV.int)] ++ more) = .ok (.tup (.str wd :: ps'.map .int)) st:=by
    rw [List.append_assoc]
    exact fin_goodA (by simp [good])
  obtain ⟨S4,hS4⟩ : ∃ S4,st ++ [Cell.lst (ps'.map PV.int)] ++ more = S4:=⟨_,rfl⟩
  rw [hS4] at s3 hP4 hf
  have hadd : oAdd S4 (.lst [.str wd]) (.ref st.length) = .ok (.lst (.str wd :: ps'.map PV.int)) S4:=by
    have hl : ([PV.str wd]).length + (ps'.map PV.int).length <= lim:=by rw [List.length_map,lim_eq]; simp; omega
    show (match lstOf S4 (.lst [.str wd]),lstOf S4 (.ref st.length) with
      | some xs,some ys=>if xs.length + ys.length <= lim then Res.ok (PV.lst (xs ++ ys)) S4 else .stuck
      | _,_=>.stuck) = _
    have e1 : lstOf S4 (.lst [.str wd]) = some [.str wd]:=rfl
    have e2 : lstOf S4 (.ref st.length) = some (ps'.map PV.int):=by simp [lstOf,hP4]
    rw [e1,e2]
    show (if _ then _ else _) = _
    rw [if_pos hl]; rfl
  have s5 : mRet (mCall cTuple (mCons (mOp oAdd (mLst (mCons (mVar 3) mNil)) (mVar 5)) mNil)) (tpΓ (tabV tb) d3 n wd m st.length b6 b7) S4 = .rt (.tup (.str wd :: ps'.map PV.int)) S4:=by
    have hll : (ps'.map PV.int).length + 1 <= 1000000:=by rw [List.length_map]; omega
    unfold tpΓ
    generalize ps'.map PV.int = pv at *
    generalize st.length = P at *
    generalize tabV tb = T at *
    simp -implicitDefEqProofs [hadd,lim_eq,hll]
  have run : m__law_b_tuple [some (tabV tb),some (.int d),none,none,none,none,none,none] st = .rt (.tup (.str wd :: ps'.map PV.int)) S4:=by
    unfold m__law_b_tuple
    rw [s1,mSeqS_eq,s2]
    show mSeqS _ _ _ _ = _
    rw [mSeqS_eq,s3]
    exact s5
  show callF m__law_b_tuple 8 _ st = _
  unfold callF
  rw [show (([tabV tb,.int d] : List PV).map some ++ List.replicate (8 - [tabV tb,PV.int d].length) none) = [some (tabV tb),some (.int d),none,none,none,none,none,none] from rfl,run]
  exact hf
def DV (wd : Str) (ps : List Int) : PV:=.tup (.str wd :: ps.map .int)
def szD (wd : Str) : Int:=if wd = "make" then 3 else if wd = "use" then 3 else if wd = "lend" then 4 else 0
theorem dv0 (wd : Str) (ps : List Int) (st : Store) : oIx st (DV wd ps) (.int 0) = .ok (.str wd) st:=by
  have:=Sm.atI_get (show (PV.str wd :: ps.map .int)[0]? = some (.str wd) from rfl)
  rw [show ((0 : Nat) : Int) = 0 from rfl] at this
  unfold DV
  rw [oIx_tup,this]; rfl
theorem dvl (wd : Str) (ps : List Int) (st : Store) : cLen st [DV wd ps] = .ok (.int (ps.length + 1)) st:=by
  unfold DV; simp
theorem told_nodeed {T : PV} {wd : Str} {ps : List Int} (hl : ps.length <= 4) (h : szD wd ≠ ps.length + 1 \/ ∃ k,k < 1 /\ ∀ st,oIx st (DV wd ps) (.int (-1)) = .ok (.int k) st) (st : Store) : F__law_b_told [T,DV wd ps] st = .ok (.str "deed") st:=by
  have t : F_is_text_and_numbers [DV wd ps] st = .ok (.bl true) st:=text_ok wd ps (by omega) st
  have a0:=dv0 wd ps st
  have al:=dvl wd ps st
  have e1 : F_is_deed [DV wd ps] st = .ok (.bl false) st:=by
    by_cases q : szD wd = ps.length + 1
    · obtain ⟨k,hk,hx⟩ : ∃ k,k < 1 /\ ∀ st,oIx st (DV wd ps) (.int (-1)) = .ok (.int k) st:=by
        rcases h with h | h
        · exact absurd q h
        · exact h
      replace hx:=hx st
      have hk' : ¬ 1 <= k:=by omega
      generalize DV wd ps = D at *
      unfold szD at q
      by_cases m1 : wd = "make"
      · rw [if_pos m1] at q
        subst m1
        simp -implicitDefEqProofs [F_is_deed,callF,m_is_deed,t,a0,al,hx,hk',<- q,-oIx_tup,-cLen_tup]
      · rw [if_neg m1] at q
        by_cases m2 : wd = "use"
        · rw [if_pos m2] at q
          subst m2
          simp -implicitDefEqProofs [F_is_deed,callF,m_is_deed,t,a0,al,hx,hk',<- q,str_um,str_ul,-oIx_tup,-cLen_tup]
        · rw [if_neg m2] at q
          by_cases m3 : wd = "lend"
          · rw [if_pos m3] at q
            subst m3
            simp -implicitDefEqProofs [F_is_deed,callF,m_is_deed,t,a0,al,hx,hk',<- q,str_lm,-oIx_tup,-cLen_tup]
          · rw [if_neg m3] at q
            omega
    · generalize DV wd ps = D at *
      have hle : (ps.length : Int) + 1 <= 5:=by omega
      generalize (ps.length : Int) + 1 = len at *
      unfold szD at q
      by_cases m1 : wd = "make"
      · rw [if_pos m1] at q
        subst m1
        have q' : ¬ (len = 3):=fun z=>q z.symm
        simp -implicitDefEqProofs [F_is_deed,callF,m_is_deed,t,a0,al,q',-oIx_tup,-cLen_tup]
      · rw [if_neg m1] at q
        by_cases m2 : wd = "use"
        · rw [if_pos m2] at q
          subst m2
          have q' : ¬ (len = 3):=fun z=>q z.symm
          simp -implicitDefEqProofs [F_is_deed,callF,m_is_deed,t,a0,al,q',str_um,str_ul,-oIx_tup,-cLen_tup]
        · rw [if_neg m2] at q
          by_cases m3 : wd = "lend"
          · rw [if_pos m3] at q
            subst m3
            have q' : ¬ (len = 4):=fun z=>q z.symm
            simp -implicitDefEqProofs [F_is_deed,callF,m_is_deed,t,a0,al,q',str_lm,-oIx_tup,-cLen_tup]
          · have hn : oEq st (.int len) .non = .ok (.bl false) st:=by simp [oEq,der,good,dep,peq]
            simp -implicitDefEqProofs [F_is_deed,callF,m_is_deed,t,a0,al,m1,m2,m3,hn,-oIx_tup,-cLen_tup]
  have e2 : F_done [T,DV wd ps] st = .exc ⟨"NoDeed",none⟩ st:=by
    generalize DV wd ps = D at *
    simp -implicitDefEqProofs [F_done,callF,m_done,e1,finX]
  unfold F__law_b_told
  rw [e2]
  simp
def inH (n : Nat) (a : Int) : Bool:=decide (0 <= a) && decide (a < (n : Int))
theorem told_dd {n : Nat} {tb : List (List Int)} (w : Wt' n tb) {d : Dd} (o : d.ok n) (st : Store) : F__law_b_told [tabV tb,d.V] st = .ok (if d.fits tb = true then tabV (d.put n tb) else .str "short") st:=by
  unfold F__law_b_told
  rw [done_key w o st]
  by_cases hd : d.fits tb = true
  · rw [if_pos hd,if_pos hd]
  · rw [if_neg hd,if_neg hd]
    dsimp only
    rw [if_neg (by decide),if_neg (by decide),if_pos rfl]
theorem told_h {T D : PV} {st : Store} (e1 : F_is_deed [D] st = .ok (.bl true) st) (e2 : F_need_houses_of_deed [T,D] st = .exc ⟨"NoHouse",none⟩ st) : F__law_b_told [T,D] st = .ok (.str "house") st:=by
  have e3 : F_done [T,D] st = .exc ⟨"NoHouse",none⟩ st:=by
    simp -implicitDefEqProofs [F_done,callF,m_done,e1,e2,finX]
  unfold F__law_b_told
  rw [e3]
  dsimp only
  rw [if_neg (by decide),if_pos rfl]
theorem told_house3 {n : Nat} {tb : List (List Int)} (hn : tb.length = n) {wd : Str} (hw : wd = "make" \/ wd = "use") {a k : Int} (hk : 1 <= k) (ha : inH n a = false) (st : Store) : F__law_b_told [tabV tb,DV wd [a,k]] st = .ok (.str "house") st:=by
  have t : F_is_text_and_numbers [DV wd [a,k]] st = .ok (.bl true) st:=text_ok wd [a,k] (by simp) st
  have b1 : cBls (fun ns=>.bl (ns.all id)) st [.lst [.bl false]] = .ok (.bl false) st:=cBls_lst _ st [false]
  have e:=is_house_ok (V:=tabV tb) (n:=n) (st:=st) (by simp [tabV,hn]) a
  have e : F_is_house [tabV tb,.int a] st = .ok (.bl false) st:=by rw [e]; exact congrArg (fun b=>Res.ok (PV.bl b) st) ha
  have s1 : cut [PV.str wd,.int a,.int k] (some 1) (some (-1)) = [.int a]:=rfl
  have a0 : atI [PV.str wd,.int a,.int k] 0 = some (.str wd):=rfl
  have a1 : atI [PV.str wd,.int a,.int k] (-1) = some (.int k):=rfl
  refine told_h ?_ ?_
  · show F_is_deed [.tup [.str wd,.int a,.int k]] st = _
    have t : F_is_text_and_numbers [.tup [.str wd,.int a,.int k]] st = .ok (.bl true) st:=t
    rcases hw with rfl | rfl
    · simp -implicitDefEqProofs [F_is_deed,callF,m_is_deed,t,a0,a1,hk]
    · simp -implicitDefEqProofs [F_is_deed,callF,m_is_deed,t,a0,a1,hk,str_um,str_ul]
  · show F_need_houses_of_deed [tabV tb,.tup [.str wd,.int a,.int k]] st = _
    generalize tabV tb = T at *
    simp -implicitDefEqProofs [F_need_houses_of_deed,callF,m_need_houses_of_deed,s1,compG,gaName,mTrue,capG,e_need_houses_of_deed_1,b1,e,lim_eq,finX]
theorem told_houseL {n : Nat} {tb : List (List Int)} (hn : tb.length = n) {a b k : Int} (hk : 1 <= k) (ha : inH n a = false \/ inH n b = false \/ a = b) (st : Store) : F__law_b_told [tabV tb,DV "lend" [a,b,k]] st = .ok (.str "house") st:=by
  have t : F_is_text_and_numbers [.tup [.str "lend",.int a,.int b,.int k]] st = .ok (.bl true) st:=text_ok "lend" [a,b,k] (by simp) st
  have b2 : ∀ u v : Bool,cBls (fun ns=>.bl (ns.all id)) st [.lst [.bl u,.bl v]] = .ok (.bl (u && v)) st:=fun u v=>by
    have:=cBls_lst (fun ns=>.bl (ns.all id)) st [u,v]
    simpa using this
  have e : ∀ x : Int,F_is_house [tabV tb,.int x] st = .ok (.bl (inH n x)) st:=fun x=>is_house_ok (V:=tabV tb) (n:=n) (st:=st) (by simp [tabV,hn]) x
  have s1 : cut [PV.str "lend",.int a,.int b,.int k] (some 1) (some (-1)) = [.int a,.int b]:=rfl
  have a0 : atI [PV.str "lend",.int a,.int b,.int k] 0 = some (.str "lend"):=rfl
  have al : atI [PV.str "lend",.int a,.int b,.int k] (-1) = some (.int k):=rfl
  have a1 : atI [PV.int a,.int b] 0 = some (.int a):=rfl
  have a2 : atI [PV.int a,.int b] 1 = some (.int b):=rfl
  refine told_h ?_ ?_
  · show F_is_deed [.tup [.str "lend",.int a,.int b,.int k]] st = _
    simp -implicitDefEqProofs [F_is_deed,callF,m_is_deed,t,a0,al,hk,str_lm]
  · show F_need_houses_of_deed [tabV tb,.tup [.str "lend",.int a,.int b,.int k]] st = _
    have ea:=e a
    have eb:=e b
    have bb:=b2 (inH n a) (inH n b)
    generalize tabV tb = T at *
    cases ha1 : inH n a with
    | false=>
      rw [ha1] at ea bb
      simp -implicitDefEqProofs [F_need_houses_of_deed,callF,m_need_houses_of_deed,s1,compG,gaName,mTrue,capG,e_need_houses_of_deed_1,bb,ea,eb,lim_eq,finX]
    | true=>
      rw [ha1] at ea bb
      cases hb1 : inH n b with
      | false=>
        rw [hb1] at eb bb
        simp -implicitDefEqProofs [F_need_houses_of_deed,callF,m_need_houses_of_deed,s1,compG,gaName,mTrue,capG,e_need_houses_of_deed_1,bb,ea,eb,lim_eq,finX]
      | true=>
        rw [hb1] at eb bb
        have hab : a = b:=by
          rcases ha with z | z | z
          · rw [ha1] at z; cases z
          · rw [hb1] at z; cases z
          · exact z
        subst hab
        simp -implicitDefEqProofs [F_need_houses_of_deed,callF,m_need_houses_of_deed,s1,a0,a1,a2,compG,gaName,mTrue,capG,e_need_houses_of_deed_1,bb,ea,lim_eq,finX]
theorem Wt'.set0 {n i j : Nat} {tb : List (List Int)} (w : Wt' n tb) (hi : i < n) {x : Int} (hx : 0 <= x) : Wt' n (tb.set i ((tb.getD i []).set j x)):=by
  have hr:=(w.sz.row hi).1
  have hm:=List.mem_of_getElem? hr
  generalize tb.getD i [] = r at *
  refine ⟨by rw [List.length_set]; exact w.len,fun q hq=>?_,fun q hq y hy=>?_,w.n1,w.n8⟩
  · rcases List.mem_or_eq_of_mem_set hq with hq | rfl
    · exact w.row q hq
    · rw [List.length_set]; exact w.row r hm
  · rcases List.mem_or_eq_of_mem_set hq with hq | rfl
    · exact w.nn q hq y hy
    · rcases List.mem_or_eq_of_mem_set hy with hy | rfl
      · exact w.nn r hm y hy
      · exact hx
structure RowsAt (n : Nat) (S : Store) (p q : Nat) (tb : List (List Int)) : Prop where
  l : S[p]? = some (.lst ((List.range n).map fun k=>PV.ref (q + k)))
  r : ∀ k,k < n -> S[q + k]? = some (.lst ((tb.getD k []).map .int))
  d : p < q \/ q + n <= p
theorem RowsAt.ix {n p q i : Nat} {S : Store} {tb : List (List Int)} (R : RowsAt n S p q tb) (hi : i < n) : oIx S (.ref p) (.int i) = .ok (.ref (q + i)) S:=by
  have : ListAt S (.ref p) _:=.inr (.inr ⟨_,rfl,R.l⟩)
  rw [this.ix,Sm.atI_get (show ((List.range n).map fun k=>PV.ref (q + k))[i]? = some (.ref (q + i)) by rw [List.getElem?_map,List.getElem?_range hi]; rfl)]
  rfl
theorem RowsAt.cell {n p q i j : Nat} {S : Store} {tb : List (List Int)} (R : RowsAt n S p q tb) (z : Sz n tb) (hi : i < n) (hj : j <= n) : oIx S (.ref (q + i)) (.int j) = .ok (.int (ent tb i j)) S:=by
  have : ListAt S (.ref (q + i)) _:=.inr (.inr ⟨_,rfl,R.r i hi⟩)
  rw [this.ix,atI_map,Sm.atI_get (z.cell hi hj)]; rfl
theorem put_okE {n p q i j : Nat} {S : Store} {tb : List (List Int)} (R : RowsAt n S p q tb) (w : Wt' n tb) {x : Int} (hx : 0 <= x) (hi : i < n) (hj : j <= n) (mo mi mj mv : ME) (Γ : Gam) (hv : mv Γ S = .ok (.int x) S) (ho : mo Γ S = .ok (.ref p) S) (hmi : mi Γ S = .ok (.int i) S) (hmj : mj Γ S = .ok (.int j) S) :
    ∃ S',RowsAt n S' p q (tb.set i ((tb.getD i []).set j x)) /\ Wt' n (tb.set i ((tb.getD i []).set j x)) /\ (∀ t,(t < q \/ q + n <= t) -> S'[t]? = S[t]?) /\ mSetIx (mOp oIx mo mi) mj mv Γ S = .nx Γ S':=by
  have hl:=(w.sz.row hi).2
  have hr:=R.r i hi
  have hil:=(List.getElem?_eq_some_iff.mp hr).1
  refine ⟨S.set (q + i) (.lst (((tb.getD i []).set j x).map .int)),⟨?_,fun k hk=>?_,R.d⟩,w.set0 hi hx,fun t ht=>?_,?_⟩
  · rw [List.getElem?_set_ne (by have:=R.d; omega)]
    exact R.l
  · by_cases e : k = i
    · subst e
      have hkl : k < tb.length:=by rw [w.len]; exact hk
      generalize (tb.getD k []).set j x = row
      rw [List.getElem?_set_self hil,List.getD,List.getElem?_set_self hkl]; rfl
    · rw [List.getElem?_set_ne (by omega),R.r k hk,List.getD,List.getD,List.getElem?_set_ne (fun z=>e z.symm)]
  · rw [List.getElem?_set_ne (by omega)]
  · have x1:=R.ix hi
    have x2 : setIx S (.ref (q + i)) (.int j) (.int x) = some (S.set (q + i) (.lst (((tb.getD i []).set j x).map .int))):=by
      unfold setIx
      simp only [hr,List.length_map,ixN_nat (show j < (tb.getD i []).length by omega),Option.map_some]
      rw [List.map_set]
    generalize S.set (q + i) (.lst (((tb.getD i []).set j x).map .int)) = S2 at *
    simp -implicitDefEqProofs [hv,ho,hmi,x1,hmj,x2,-setIx_r]
theorem trows8 (tb : List (List Int)) (Γ : Gam) (S : Store) : compG (gaName 0) mTrue e__law_b_due_1 [] (capG [none] Γ) (tb.map rowV) S = .ok ((List.range tb.length).map fun k=>.ref (S.length + k)) (S ++ tb.map fun r=>Cell.lst (r.map .int)):=by
  obtain ⟨out,st',e,rfl,rfl⟩:=compG_inv (g:=rowV) (xs:=tb) (ga:=gaName 0) (me:=e__law_b_due_1) (w:=[]) (Γ0:=capG [none] Γ) (st:=S)
    (fun i out st'=>out = (List.range i).map (fun k=>PV.ref (S.length + k)) /\ st' = S ++ (tb.take i).map fun r=>Cell.lst (r.map .int))
    (fun i out st' _=>by simp)
    (fun i r out st' hr ⟨e1,e2⟩=>by
      subst e1; subst e2
      have hil:=(List.getElem?_eq_some_iff.mp hr).1
      have hlen : (S ++ (tb.take i).map fun r=>Cell.lst (r.map .int)).length = S.length + i:=by
        rw [List.length_append,List.length_map,List.length_take,Nat.min_eq_left (by omega)]
      have e3 : tb.take (i + 1) = tb.take i ++ [r]:=by
        rw [List.take_add_one,hr]; rfl
      refine ⟨_,rfl,.ref (S.length + i),S ++ (tb.take (i + 1)).map fun r=>Cell.lst (r.map .int),?_,?_,rfl⟩
      · rw [e3,List.map_append,<- List.append_assoc,<- hlen]
        generalize S ++ (tb.take i).map (fun r=>Cell.lst (r.map .int)) = T
        simp -implicitDefEqProofs [capG,e__law_b_due_1,rowV]
      · rw [List.range_succ,List.map_append]; rfl)
    ⟨rfl,by simp⟩
  rw [e,List.take_length]
theorem rows_mk {n : Nat} {S cells : Store} {tb : List (List Int)} (hl : cells.length = n) (hc : ∀ k,k < n -> cells[k]? = some (.lst ((tb.getD k []).map .int))) : RowsAt n (S ++ cells ++ [.lst ((List.range n).map fun k=>PV.ref (S.length + k))]) (S.length + n) S.length tb:=by
  have hlen : (S ++ cells).length = S.length + n:=by simp [hl]
  refine ⟨?_,fun k hk=>?_,.inr (Nat.le_refl _)⟩
  · rw [<- hlen]; simp
  · rw [List.getElem?_append_left (by omega),List.getElem?_append_right (by omega),Nat.add_sub_cancel_left]
    exact hc k hk
theorem tup8 {n p q : Nat} {S : Store} {tb : List (List Int)} (R : RowsAt n S p q tb) (w : Wt' n tb) (Γ : Gam) : compG (gaName 0) mTrue e__law_b_due_2 [(p,Cell.lst ((List.range n).map fun k=>PV.ref (q + k)))] (capG [none] Γ) ((List.range n).map fun k=>PV.ref (q + k)) S = .ok (tb.map rowV) S:=by
  have e : tb.map rowV = (List.range n).map fun k=>rowV (tb.getD k []):=by
    have:=map_getD tb [] rowV
    rw [w.len] at this
    exact this
  have hl:=R.l
  rw [e]
  refine compG_on _ _ (by simp [wOk,hl]) fun k hk=>⟨_,rfl,?_⟩
  have g:=R.r k (List.mem_range.mp hk)
  generalize q + k = t at *
  simp -implicitDefEqProofs [capG,e__law_b_due_2,g]
  rfl
abbrev duΓ (T D : PV) (n P : Nat) (b4 b5 b6 : Option PV) : Gam:=[some T,some D,some (.int n),some (.ref P),b4,b5,b6]
def kv3 : List (Key × PV):=[(.inr "make",.int 3),(.inr "use",.int 3),(.inr "lend",.int 4)]
theorem kv3_val (wd : Str) : (valP kv3 (.inr wd)).getD (.int 0) = .int (szD wd):=by
  unfold szD valP kv3
  by_cases m1 : wd = "make"
  · subst m1; simp
  · by_cases m2 : wd = "use"
    · subst m2; simp [str_mu]
    · by_cases m3 : wd = "lend"
      · subst m3; simp [str_ml,str_ul,str_lm,str_lu]
      · have n1 : ¬ (Str.ofString "make" = wd):=fun z=>m1 z.symm
        have n2 : ¬ (Str.ofString "use" = wd):=fun z=>m2 z.symm
        have n3 : ¬ (Str.ofString "lend" = wd):=fun z=>m3 z.symm
        simp [m1,m2,m3,n1,n2,n3]
theorem due_pre {n : Nat} {tb : List (List Int)} (hn : tb.length = n) (D : PV) (st : Store) (X : MS) : (mSeqS (mSet 2 (mCall cLen (mCons (mVar 0) mNil)))
    (mSeqS (mSet 3 (mDisp3 "make" "use" "lend" (mC (.int 3)) (mC (.int 3)) (mC (.int 4)))) X)) [some (tabV tb),some D,none,none,none,none,none] st = X (duΓ (tabV tb) D n st.length none none none) (st ++ [.dic kv3]):=by
  have hl : cLen st [tabV tb] = .ok (.int n) st:=by simp [tabV,hn]
  unfold duΓ kv3
  generalize tabV tb = T at *
  simp -implicitDefEqProofs [hl]
theorem due_get {T : PV} {n : Nat} (wd : Str) (ps : List Int) (st : Store) (b4 b5 b6 : Option PV) : mDGet2 (mVar 3) (mOp oIx (mVar 1) (mC (.int 0))) (mC (.int 0)) (duΓ T (DV wd ps) n st.length b4 b5 b6) (st ++ [.dic kv3]) = .ok (.int (szD wd)) (st ++ [.dic kv3]):=by
  have hP : (st ++ [Cell.dic kv3])[st.length]? = some (.dic kv3):=by simp
  have a0:=dv0 wd ps (st ++ [.dic kv3])
  have hd : isDic (st ++ [Cell.dic kv3]) st.length = true:=by unfold isDic; rw [hP]
  have hg : dget2 (st ++ [Cell.dic kv3]) st.length (.str wd) (.int 0) = .ok (.int (szD wd)) (st ++ [.dic kv3]):=by
    unfold dget2
    rw [hP]
    show Res.ok ((valP kv3 (.inr wd)).getD (.int 0)) _ = _
    rw [kv3_val]
  unfold duΓ
  generalize st ++ [Cell.dic kv3] = S at *
  generalize st.length = P at *
  generalize DV wd ps = D at *
  simp -implicitDefEqProofs [a0,hd,hg,-oIx_tup]
theorem due_nodeed {n : Nat} {tb : List (List Int)} (hn : tb.length = n) {wd : Str} {ps : List Int} (h : szD wd ≠ ps.length + 1 \/ ∃ k,k < 1 /\ ∀ st,oIx st (DV wd ps) (.int (-1)) = .ok (.int k) st) (st : Store) : F__law_b_due [tabV tb,DV wd ps] st = .ok (.str "deed") st:=by
  have e1:=due_pre hn (DV wd ps) st
  have e2:=due_get (T:=tabV tb) (n:=n) wd ps st none none none
  have e3:=dvl wd ps (st ++ [.dic kv3])
  have hf : fin st (.str "deed") (st ++ [.dic kv3]) = .ok (.str "deed") st:=fin_goodA rfl
  show callF m__law_b_due 7 _ st = _
  unfold callF m__law_b_due
  rw [show (([tabV tb,DV wd ps] : List PV).map some ++ List.replicate (7 - [tabV tb,DV wd ps].length) none) = [some (tabV tb),some (DV wd ps),none,none,none,none,none] from rfl,e1]
  have t : (tOrM (toB (mOp oNe (mDGet2 (mVar 3) (mOp oIx (mVar 1) (mC (.int 0))) (mC (.int 0))) (mCall cLen (mCons (mVar 1) mNil)))) (toB (mOp oLt (mOp oIx (mVar 1) (mNeg (mC (.int 1)))) (mC (.int 1))))) (duΓ (tabV tb) (DV wd ps) n st.length none none none) (st ++ [.dic kv3]) = .ok true (st ++ [.dic kv3]):=by
    by_cases q : szD wd = ps.length + 1
    · obtain ⟨k,hk,hx⟩ : ∃ k,k < 1 /\ ∀ st,oIx st (DV wd ps) (.int (-1)) = .ok (.int k) st:=by
        rcases h with h | h
        · exact absurd q h
        · exact h
      have hx:=hx (st ++ [.dic kv3])
      generalize mDGet2 (mVar 3) (mOp oIx (mVar 1) (mC (.int 0))) (mC (.int 0)) = M at *
      unfold duΓ at *
      generalize st ++ [Cell.dic kv3] = S at *
      generalize st.length = P at *
      generalize DV wd ps = D at *
      generalize tabV tb = T at *
      simp -implicitDefEqProofs [e2,e3,q,hx,hk,-oIx_tup,-cLen_tup]
    · generalize mDGet2 (mVar 3) (mOp oIx (mVar 1) (mC (.int 0))) (mC (.int 0)) = M at *
      unfold duΓ at *
      generalize st ++ [Cell.dic kv3] = S at *
      generalize st.length = P at *
      generalize DV wd ps = D at *
      generalize tabV tb = T at *
      simp -implicitDefEqProofs [e2,e3,q,-oIx_tup,-cLen_tup]
  rw [mSeqS_eq,mIfS_eq,t,sbind_ok,if_pos rfl]
  exact hf
theorem due_loop {n P : Nat} {T D : PV} (hs : List Int) (S : Store) :
    (hs.all (inH n) = true -> ∃ c4,forG (gaName 4) b__law_b_due_1 [] (hs.map .int) (duΓ T D n P none none none) S = .nx (duΓ T D n P c4 none none) S) /\ (hs.all (inH n) = false -> forG (gaName 4) b__law_b_due_1 [] (hs.map .int) (duΓ T D n P none none none) S = .rt (.str "house") S):=by
  have L:=forG_search PV.int (fun Γ=>∃ c4,Γ = duΓ T D n P c4 none none) (inH n) (.str "house") (ga:=gaName 4) (body:=b__law_b_due_1) (w:=[]) (st:=S) (by simp) (xs:=hs) (fun z hz Γ ⟨c4,e⟩=>by
    subst e
    refine ⟨_,rfl,fun hp=>⟨duΓ T D n P (some (.int z)) none none,⟨_,rfl⟩,?_⟩,fun hp=>?_⟩
    · unfold inH at hp
      simp only [Bool.and_eq_true,decide_eq_true_eq] at hp
      have q1 : ¬ z < 0:=by omega
      have q2 : ¬ (n : Int) <= z:=by omega
      show b__law_b_due_1 (duΓ T D n P (some (.int z)) none none) S = _
      unfold duΓ
      simp -implicitDefEqProofs [b__law_b_due_1,q1,q2]
    · show b__law_b_due_1 (duΓ T D n P (some (.int z)) none none) S = _
      unfold duΓ
      by_cases q1 : z < 0
      · simp -implicitDefEqProofs [b__law_b_due_1,q1]
      · have q2 : (n : Int) <= z:=by
          unfold inH at hp
          simp only [Bool.and_eq_false_iff,decide_eq_false_iff_not] at hp
          omega
        simp -implicitDefEqProofs [b__law_b_due_1,q1,q2])
    (duΓ T D n P none none none) ⟨_,rfl⟩
  exact ⟨fun h=>by
    obtain ⟨Γ',⟨c4,rfl⟩,e⟩:=L.1 h
    exact ⟨c4,e⟩,L.2⟩
theorem due_front {n : Nat} {tb : List (List Int)} (hn : tb.length = n) {wd : Str} {ps hs : List Int} {k : Int} (h : szD wd = ps.length + 1) (hk : 1 <= k) (hx : ∀ st,oIx st (DV wd ps) (.int (-1)) = .ok (.int k) st) (hc : cut (PV.str wd :: ps.map .int) (some 1) (some (-1)) = hs.map .int) (hl : hs.length <= 100) (st : Store) (X : MS) :
    (hs.all (inH n) = true -> ∃ c4,(mSeqS (mSet 2 (mCall cLen (mCons (mVar 0) mNil)))
    (mSeqS (mSet 3 (mDisp3 "make" "use" "lend" (mC (.int 3)) (mC (.int 3)) (mC (.int 4))))
    (mSeqS (mIfS (tOrM (toB (mOp oNe (mDGet2 (mVar 3) (mOp oIx (mVar 1) (mC (.int 0))) (mC (.int 0))) (mCall cLen (mCons (mVar 1) mNil)))) (toB (mOp oLt (mOp oIx (mVar 1) (mNeg (mC (.int 1)))) (mC (.int 1))))) (mRet (mC (.str "deed"))) mNext)
    (mSeqS (mFor (gaName 4) (mSeq (mSl (mVar 1) (mPart (mC (.int 1))) (mPart (mNeg (mC (.int 1)))))) b__law_b_due_1) X)))) [some (tabV tb),some (DV wd ps),none,none,none,none,none] st = X (duΓ (tabV tb) (DV wd ps) n st.length c4 none none) (st ++ [.dic kv3])) /\
    (hs.all (inH n) = false -> (mSeqS (mSet 2 (mCall cLen (mCons (mVar 0) mNil)))
    (mSeqS (mSet 3 (mDisp3 "make" "use" "lend" (mC (.int 3)) (mC (.int 3)) (mC (.int 4))))
    (mSeqS (mIfS (tOrM (toB (mOp oNe (mDGet2 (mVar 3) (mOp oIx (mVar 1) (mC (.int 0))) (mC (.int 0))) (mCall cLen (mCons (mVar 1) mNil)))) (toB (mOp oLt (mOp oIx (mVar 1) (mNeg (mC (.int 1)))) (mC (.int 1))))) (mRet (mC (.str "deed"))) mNext)
    (mSeqS (mFor (gaName 4) (mSeq (mSl (mVar 1) (mPart (mC (.int 1))) (mPart (mNeg (mC (.int 1)))))) b__law_b_due_1) X)))) [some (tabV tb),some (DV wd ps),none,none,none,none,none] st = .rt (.str "house") (st ++ [.dic kv3])):=by
  have e2:=due_get (T:=tabV tb) (n:=n) wd ps st none none none
  have e3:=dvl wd ps (st ++ [.dic kv3])
  have hx:=hx (st ++ [.dic kv3])
  have hk' : ¬ k < 1:=by omega
  have s3 : (mIfS (tOrM (toB (mOp oNe (mDGet2 (mVar 3) (mOp oIx (mVar 1) (mC (.int 0))) (mC (.int 0))) (mCall cLen (mCons (mVar 1) mNil)))) (toB (mOp oLt (mOp oIx (mVar 1) (mNeg (mC (.int 1)))) (mC (.int 1))))) (mRet (mC (.str "deed"))) mNext) (duΓ (tabV tb) (DV wd ps) n st.length none none none) (st ++ [.dic kv3]) = .nx (duΓ (tabV tb) (DV wd ps) n st.length none none none) (st ++ [.dic kv3]):=by
    generalize mDGet2 (mVar 3) (mOp oIx (mVar 1) (mC (.int 0))) (mC (.int 0)) = M at *
    unfold duΓ at *
    generalize st ++ [Cell.dic kv3] = S at *
    generalize st.length = P at *
    generalize DV wd ps = D at *
    generalize tabV tb = T at *
    simp -implicitDefEqProofs [e2,e3,h,hx,hk',-oIx_tup,-cLen_tup]
  have hsl : (mSeq (mSl (mVar 1) (mPart (mC (.int 1))) (mPart (mNeg (mC (.int 1)))))) (duΓ (tabV tb) (DV wd ps) n st.length none none none) (st ++ [.dic kv3]) = .ok (hs.map .int,[]) (st ++ [.dic kv3]):=by
    have hll : (hs.map PV.int).length <= 1000000:=by rw [List.length_map]; omega
    unfold duΓ DV
    generalize st ++ [Cell.dic kv3] = S at *
    generalize st.length = P at *
    generalize tabV tb = T at *
    generalize PV.str wd :: ps.map .int = pv at *
    have hll2 : hs.length <= 1000000:=by omega
    simp -implicitDefEqProofs [hc,hll,hll2,lim_eq]
  have L:=due_loop (n:=n) (P:=st.length) (T:=tabV tb) (D:=DV wd ps) hs (st ++ [.dic kv3])
  refine ⟨fun ha=>?_,fun ha=>?_⟩
  · obtain ⟨c4,e⟩:=L.1 ha
    refine ⟨c4,?_⟩
    rw [due_pre hn,mSeqS_eq,s3]
    show mSeqS _ _ _ _ = _
    have s4 : mFor (gaName 4) (mSeq (mSl (mVar 1) (mPart (mC (.int 1))) (mPart (mNeg (mC (.int 1)))))) b__law_b_due_1 (duΓ (tabV tb) (DV wd ps) n st.length none none none) (st ++ [.dic kv3]) = .nx (duΓ (tabV tb) (DV wd ps) n st.length c4 none none) (st ++ [.dic kv3]):=by
      rw [mFor_eq,hsl]
      exact e
    rw [mSeqS_eq,s4]
  · have e:=L.2 ha
    rw [due_pre hn,mSeqS_eq,s3]
    show mSeqS _ _ _ _ = _
    have s4 : mFor (gaName 4) (mSeq (mSl (mVar 1) (mPart (mC (.int 1))) (mPart (mNeg (mC (.int 1)))))) b__law_b_due_1 (duΓ (tabV tb) (DV wd ps) n st.length none none none) (st ++ [.dic kv3]) = .rt (.str "house") (st ++ [.dic kv3]):=by
      rw [mFor_eq,hsl]
      exact e
    rw [mSeqS_eq,s4]
theorem due_house {n : Nat} {tb : List (List Int)} (hn : tb.length = n) {wd : Str} {ps hs : List Int} {k : Int} (h : szD wd = ps.length + 1) (hk : 1 <= k) (hx : ∀ st,oIx st (DV wd ps) (.int (-1)) = .ok (.int k) st) (hc : cut (PV.str wd :: ps.map .int) (some 1) (some (-1)) = hs.map .int) (hl : hs.length <= 100) (ha : hs.all (inH n) = false) (st : Store) : F__law_b_due [tabV tb,DV wd ps] st = .ok (.str "house") st:=by
  have hf : fin st (.str "house") (st ++ [.dic kv3]) = .ok (.str "house") st:=fin_goodA rfl
  show callF m__law_b_due 7 _ st = _
  unfold callF m__law_b_due
  rw [show (([tabV tb,DV wd ps] : List PV).map some ++ List.replicate (7 - [tabV tb,DV wd ps].length) none) = [some (tabV tb),some (DV wd ps),none,none,none,none,none] from rfl,(due_front hn h hk hx hc hl st _).2 ha]
  exact hf
def tail8 : MS := (mSeqS (mIfS (tAndM (toB (mOp oNe (mOp oIx (mVar 1) (mC (.int 0))) (mC (.str "make")))) (toB (mOp oLt (mCallF 2 F__law_b_rights (mCons (mVar 0) (mCons (mOp oIx (mVar 1) (mC (.int 1))) mNil))) (mOp oIx (mVar 1) (mNeg (mC (.int 1))))))) (mRet (mC (.str "short"))) mNext)
    (mSeqS (mSet 5 (mOp oIx (mLst (mCons (mVar 2) (mCons (mOp oIx (mVar 1) (mC (.int 1))) (mCons (mOp oIx (mVar 1) (mC (.int 2))) mNil)))) (mBM mtIndexS (mLst (mCons (mC (.str "use")) (mCons (mC (.str "make")) (mCons (mC (.str "lend")) mNil)))) (mCons (mOp oIx (mVar 1) (mC (.int 0))) mNil))))
    (mSeqS (mSet 6 (mTrk (mCompN [none] (gaName 0) (mSeq (mVar 0)) mTrue e__law_b_due_1)))
    (mSeqS (mSetIx (mOp oIx (mVar 6) (mOp oIx (mVar 1) (mC (.int 1)))) (mVar 5) (mOp oAdd (mOp oIx (mOp oIx (mVar 6) (mOp oIx (mVar 1) (mC (.int 1)))) (mVar 5)) (mOp oIx (mVar 1) (mNeg (mC (.int 1))))))
    (mRet (mCall cTuple (mCons (mVal (mCompN [none] (gaName 0) (mSeq (mVar 6)) mTrue e__law_b_due_2)) mNil)))))))
theorem due_same {n : Nat} {tb : List (List Int)} (hn : tb.length = n) {a k : Int} (hk : 1 <= k) (ha : inH n a = true) (st : Store) : F__law_b_due [tabV tb,DV "lend" [a,a,k]] st = .ok (.str "house") st:=by
  have hf : fin st (.str "house") (st ++ [.dic kv3]) = .ok (.str "house") st:=fin_goodA rfl
  obtain ⟨c4,e⟩:=(due_front (wd := "lend") (ps:=[a,a,k]) (hs:=[a,a]) hn (by show szD "lend" = ((3 : Nat) : Int) + 1; decide) hk (fun _=>rfl) rfl (by simp) st (mSeqS (mIfS (tAndM (toB (mOp oEq (mOp oIx (mVar 1) (mC (.int 0))) (mC (.str "lend")))) (toB (mOp oEq (mOp oIx (mVar 1) (mC (.int 1))) (mOp oIx (mVar 1) (mC (.int 2)))))) (mRet (mC (.str "house"))) mNext) tail8)).1 (by simp [ha])
  show callF m__law_b_due 7 _ st = _
  unfold callF m__law_b_due
  rw [show (([tabV tb,DV "lend" [a,a,k]] : List PV).map some ++ List.replicate (7 - [tabV tb,DV "lend" [a,a,k]].length) none) = [some (tabV tb),some (DV "lend" [a,a,k]),none,none,none,none,none] from rfl]
  unfold tail8 at e
  rw [e]
  have t : (tAndM (toB (mOp oEq (mOp oIx (mVar 1) (mC (.int 0))) (mC (.str "lend")))) (toB (mOp oEq (mOp oIx (mVar 1) (mC (.int 1))) (mOp oIx (mVar 1) (mC (.int 2)))))) (duΓ (tabV tb) (DV "lend" [a,a,k]) n st.length c4 none none) (st ++ [.dic kv3]) = .ok true (st ++ [.dic kv3]):=by
    have x0 : ∀ S,oIx S (DV "lend" [a,a,k]) (.int 0) = .ok (.str "lend") S:=fun S=>rfl
    have x1 : ∀ S,oIx S (DV "lend" [a,a,k]) (.int 1) = .ok (.int a) S:=fun S=>rfl
    have x2 : ∀ S,oIx S (DV "lend" [a,a,k]) (.int 2) = .ok (.int a) S:=fun S=>rfl
    unfold duΓ
    generalize st ++ [Cell.dic kv3] = S at *
    generalize st.length = P at *
    generalize DV "lend" [a,a,k] = D at *
    generalize tabV tb = T at *
    simp -implicitDefEqProofs [x0,x1,x2,-oIx_tup]
  rw [mSeqS_eq,mIfS_eq,t,sbind_ok,if_pos rfl]
  exact hf
def Dd.wd : Dd -> Str
  | .mk _ _ => "make"
  | .ld _ _ _ => "lend"
  | .us _ _ => "use"
def Dd.ps : Dd -> List Int
  | .mk h k=>[h,k]
  | .ld h q k=>[h,q,k]
  | .us h k=>[h,k]
def Dd.hs : Dd -> List Int
  | .mk h _=>[h]
  | .ld h q _=>[h,q]
  | .us h _=>[h]
theorem Dd.dv (d : Dd) : d.V = DV d.wd d.ps:=by cases d <;> rfl
theorem Dd.sz (d : Dd) : szD d.wd = d.ps.length + 1:=by
  cases d with
  | mk h k=>show szD "make" = ((2 : Nat) : Int) + 1; decide
  | ld h q k=>show szD "lend" = ((3 : Nat) : Int) + 1; decide
  | us h k=>show szD "use" = ((2 : Nat) : Int) + 1; decide
theorem dd_cut (d : Dd) : cut (PV.str d.wd :: d.ps.map .int) (some 1) (some (-1)) = d.hs.map .int:=by cases d <;> rfl
theorem Dd.allIn {n : Nat} {d : Dd} (o : d.ok n) : d.hs.all (inH n) = true:=by
  cases d with
  | mk h k=>have:=o.1; simp [Dd.hs,inH]; omega
  | ld h q k=>have:=o.1; have:=o.2.1; simp [Dd.hs,inH]; omega
  | us h k=>have:=o.1; simp [Dd.hs,inH]; omega
theorem due_dd {n : Nat} {tb : List (List Int)} (w : Wt' n tb) {d : Dd} (o : d.ok n) (st : Store) : F__law_b_due [tabV tb,d.V] st = .ok (if d.fits tb = true then tabV (d.put n tb) else .str "short") st:=by
  have h8:=w.n8
  have hh:=Dd.ok_h o
  have hpl:=Dd.ok_pl o
  have hk:=Dd.ok_k o
  have hal : ∀ S,oIx S (DV d.wd d.ps) (.int (-1)) = .ok (.int d.k) S:=fun S=>by rw [<- d.dv]; exact d.al S
  have h1 : ∀ S,oIx S (DV d.wd d.ps) (.int 1) = .ok (.int d.h) S:=fun S=>by rw [<- d.dv]; exact d.a1 S
  have h0 : ∀ S,oIx S (DV d.wd d.ps) (.int 0) = .ok (.str d.wd) S:=fun S=>dv0 _ _ S
  rw [d.dv]
  obtain ⟨c4,e⟩:=(due_front (wd:=d.wd) (ps:=d.ps) (hs:=d.hs) w.len d.sz hk hal (dd_cut d) (by cases d <;> simp [Dd.hs]) st (mSeqS (mIfS (tAndM (toB (mOp oEq (mOp oIx (mVar 1) (mC (.int 0))) (mC (.str "lend")))) (toB (mOp oEq (mOp oIx (mVar 1) (mC (.int 1))) (mOp oIx (mVar 1) (mC (.int 2)))))) (mRet (mC (.str "house"))) mNext) tail8)).1 (Dd.allIn o)
  obtain ⟨x2,hx2,hne⟩ : ∃ x2 : Int,(∀ S,oIx S (DV d.wd d.ps) (.int 2) = .ok (.int x2) S) /\ (d.wd = "lend" -> ¬ ((d.h : Int) = x2)):=by
    cases d with
    | mk h k=>exact ⟨k,fun S=>rfl,fun z=>absurd z str_ml⟩
    | ld h q k=>exact ⟨q,fun S=>rfl,fun _=>by show ¬ ((h : Int) = q); have:=o.2.2.1; omega⟩
    | us h k=>exact ⟨k,fun S=>rfl,fun z=>absurd z str_ul⟩
  obtain ⟨S1,hS1⟩ : ∃ S1,st ++ [Cell.dic kv3] = S1:=⟨_,rfl⟩
  have hpre : ∀ more,fin st (tabV (d.put n tb)) (S1 ++ more) = .ok (tabV (d.put n tb)) st:=fun more=>by
    rw [<- hS1,List.append_assoc]; exact fin_goodA (by simp [good,tabV,rowV])
  have hfs : fin st (.str "short") S1 = .ok (.str "short") st:=by rw [<- hS1]; exact fin_goodA rfl
  rw [hS1] at e
  have s5 : (mIfS (tAndM (toB (mOp oEq (mOp oIx (mVar 1) (mC (.int 0))) (mC (.str "lend")))) (toB (mOp oEq (mOp oIx (mVar 1) (mC (.int 1))) (mOp oIx (mVar 1) (mC (.int 2)))))) (mRet (mC (.str "house"))) mNext) (duΓ (tabV tb) (DV d.wd d.ps) n st.length c4 none none) S1 = .nx (duΓ (tabV tb) (DV d.wd d.ps) n st.length c4 none none) S1:=by
    have a0:=h0 S1
    have a1:=h1 S1
    have a2:=hx2 S1
    unfold duΓ
    by_cases q : d.wd = "lend"
    · have q2:=hne q
      generalize d.wd = wd at *
      generalize DV wd d.ps = D at *
      generalize st.length = P at *
      generalize tabV tb = T at *
      simp -implicitDefEqProofs [a0,a1,a2,q,q2,-oIx_tup]
    · generalize d.wd = wd at *
      generalize DV wd d.ps = D at *
      generalize st.length = P at *
      generalize tabV tb = T at *
      simp -implicitDefEqProofs [a0,q,-oIx_tup]
  have hr:=lrights_ok (TabLike.tab w.sz S1) (by omega) hh
  rw [lr_eq w.sz hh] at hr
  have hwM : (d.wd = "make" <-> d.isM = true):=by
    cases d with
    | mk h k=>simp [Dd.wd,Dd.isM]
    | ld h q k=>simp [Dd.wd,Dd.isM,str_lm]
    | us h k=>simp [Dd.wd,Dd.isM,str_um]
  have start : ∀ r : SR,tail8 (duΓ (tabV tb) (DV d.wd d.ps) n st.length c4 none none) S1 = r -> m__law_b_due [some (tabV tb),some (DV d.wd d.ps),none,none,none,none,none] st = r:=fun r hr=>by
    unfold m__law_b_due
    unfold tail8 at e hr
    rw [e,mSeqS_eq,s5]
    exact hr
  show callF m__law_b_due 7 _ st = _
  unfold callF
  rw [show (([tabV tb,DV d.wd d.ps] : List PV).map some ++ List.replicate (7 - [tabV tb,DV d.wd d.ps].length) none) = [some (tabV tb),some (DV d.wd d.ps),none,none,none,none,none] from rfl]
  by_cases hfit : d.fits tb = true
  · rw [if_pos hfit]
    have s6 : (mIfS (tAndM (toB (mOp oNe (mOp oIx (mVar 1) (mC (.int 0))) (mC (.str "make")))) (toB (mOp oLt (mCallF 2 F__law_b_rights (mCons (mVar 0) (mCons (mOp oIx (mVar 1) (mC (.int 1))) mNil))) (mOp oIx (mVar 1) (mNeg (mC (.int 1))))))) (mRet (mC (.str "short"))) mNext) (duΓ (tabV tb) (DV d.wd d.ps) n st.length c4 none none) S1 = .nx (duΓ (tabV tb) (DV d.wd d.ps) n st.length c4 none none) S1:=by
      have a0:=h0 S1
      have a1:=h1 S1
      have a2:=hal S1
      unfold duΓ
      unfold Dd.fits at hfit
      by_cases q : d.wd = "make"
      · generalize d.wd = wd at *
        generalize DV wd d.ps = D at *
        generalize st.length = P at *
        generalize tabV tb = T at *
        simp -implicitDefEqProofs [a0,q,-oIx_tup]
      · have hk2 : ¬ rightsF tb d.h < d.k:=by
          rw [Bool.or_eq_true] at hfit
          rcases hfit with z | z
          · exact absurd (hwM.mpr z) q
          · have:=of_decide_eq_true z; omega
        generalize d.wd = wd at *
        generalize DV wd d.ps = D at *
        generalize st.length = P at *
        generalize rightsF tb d.h = r at *
        generalize tabV tb = T at *
        simp -implicitDefEqProofs [a0,a1,a2,q,hr,hk2,-oIx_tup]
    have s7 : mSet 5 (mOp oIx (mLst (mCons (mVar 2) (mCons (mOp oIx (mVar 1) (mC (.int 1))) (mCons (mOp oIx (mVar 1) (mC (.int 2))) mNil)))) (mBM mtIndexS (mLst (mCons (mC (.str "use")) (mCons (mC (.str "make")) (mCons (mC (.str "lend")) mNil)))) (mCons (mOp oIx (mVar 1) (mC (.int 0))) mNil))) (duΓ (tabV tb) (DV d.wd d.ps) n st.length c4 none none) S1 = .nx (duΓ (tabV tb) (DV d.wd d.ps) n st.length c4 (some (.int (d.pl n))) none) S1:=by
      have a0:=h0 S1
      have a1:=h1 S1
      have a2:=hx2 S1
      obtain ⟨j,hj1,hj2⟩ : ∃ j : Nat,mtIndexS S1 (.lst [.str "use",.str "make",.str "lend"]) [.str d.wd] = .ok (.int j) S1 /\ oIx S1 (.lst [.int n,.int d.h,.int x2]) (.int j) = .ok (.int (d.pl n)) S1:=by
        cases d with
        | mk h k=>exact ⟨1,by first | rfl | (simp [mtIndexS,strsOf,idxS,Dd.wd,str_um]),rfl⟩
        | ld h q k=>
          have ex2 : x2 = q:=by
            have z : Res.ok (PV.int (q : Int)) S1 = Res.ok (PV.int x2) S1:=a2
            cases z; rfl
          subst ex2
          exact ⟨2,by first | rfl | (simp [mtIndexS,strsOf,idxS,Dd.wd,str_ul,str_ml]),rfl⟩
        | us h k=>exact ⟨0,by first | rfl | (simp [mtIndexS,strsOf,idxS,Dd.wd]),rfl⟩
      unfold duΓ
      generalize (d.pl n : Int) = pl at *
      generalize (d.h : Int) = h at *
      generalize d.wd = wd at *
      generalize DV wd d.ps = D at *
      generalize st.length = P at *
      generalize tabV tb = T at *
      simp -implicitDefEqProofs [a0,a1,a2,hj1,hj2,lim_eq,-oIx_tup,-oIx_lst]
    have ht:=trows8 tb (duΓ (tabV tb) (DV d.wd d.ps) n st.length c4 (some (.int (d.pl n))) none) S1
    have R:=rows_mk (S:=S1) (cells:=tb.map fun r=>Cell.lst (r.map .int)) (tb:=tb) (n:=n) (by rw [List.length_map,w.len]) (fun i hi=>by rw [List.getElem?_map,(w.sz.row hi).1]; rfl)
    have hcl : (tb.map fun r=>Cell.lst (r.map .int)).length = n:=by rw [List.length_map,w.len]
    rw [w.len] at ht
    obtain ⟨S2,hS2⟩ : ∃ S2,S1 ++ (tb.map fun r=>Cell.lst (r.map .int)) ++ [.lst ((List.range n).map fun k=>PV.ref (S1.length + k))] = S2:=⟨_,rfl⟩
    rw [hS2] at R
    have hpre2 : S1 <+: S2:=⟨_,by rw [<- hS2,List.append_assoc]⟩
    have s8 : mSet 6 (mTrk (mCompN [none] (gaName 0) (mSeq (mVar 0)) mTrue e__law_b_due_1)) (duΓ (tabV tb) (DV d.wd d.ps) n st.length c4 (some (.int (d.pl n))) none) S1 = .nx (duΓ (tabV tb) (DV d.wd d.ps) n st.length c4 (some (.int (d.pl n))) (some (.ref (S1.length + n)))) S2:=by
      have hsrc : srcOf S1 (tabV tb) = some (tb.map rowV,[]):=rfl
      have hll : (tb.map rowV).length <= 1000000:=by rw [List.length_map,w.len]; omega
      rw [List.append_assoc] at hS2
      unfold duΓ at *
      generalize (tb.map fun r=>Cell.lst (r.map .int)) = cells at *
      generalize ((List.range n).map fun k=>PV.ref (S1.length + k)) = refs at *
      generalize tb.map rowV = tv at *
      generalize tabV tb = T at *
      generalize DV d.wd d.ps = D at *
      generalize st.length = P at *
      simp -implicitDefEqProofs [hsrc,hll,lim_eq,ht,hcl,hS2]
    have he:=w.ent_nn hh hpl
    have c1:=R.ix hh
    have c2:=R.cell w.sz hh hpl
    have a1:=h1 S2
    have a2:=hal S2
    obtain ⟨S3,R3,w3,f3,e3⟩:=put_okE R w (x:=ent tb d.h (d.pl n) + d.k) (by omega) hh hpl (mVar 6) (mOp oIx (mVar 1) (mC (.int 1))) (mVar 5) (mOp oAdd (mOp oIx (mOp oIx (mVar 6) (mOp oIx (mVar 1) (mC (.int 1)))) (mVar 5)) (mOp oIx (mVar 1) (mNeg (mC (.int 1))))) (duΓ (tabV tb) (DV d.wd d.ps) n st.length c4 (some (.int (d.pl n))) (some (.ref (S1.length + n)))) (by
      unfold duΓ
      generalize ent tb d.h (d.pl n) = z at *
      generalize (d.pl n : Int) = pl at *
      generalize DV d.wd d.ps = D at *
      generalize st.length = P at *
      generalize tabV tb = T at *
      simp -implicitDefEqProofs [c1,c2,a1,a2,-oIx_tup,-oIx_r]) rfl (by
      unfold duΓ
      generalize DV d.wd d.ps = D at *
      generalize st.length = P at *
      generalize tabV tb = T at *
      simp -implicitDefEqProofs [a1,-oIx_tup]) rfl
    have hput : tb.set d.h ((tb.getD d.h []).set (d.pl n) (ent tb d.h (d.pl n) + d.k)) = d.put n tb:=rfl
    rw [hput] at R3 w3
    have hc:=tup8 R3 w3 (duΓ (tabV tb) (DV d.wd d.ps) n st.length c4 (some (.int (d.pl n))) (some (.ref (S1.length + n))))
    have hs3 : srcOf S3 (.ref (S1.length + n)) = some ((List.range n).map (fun k=>PV.ref (S1.length + k)),[(S1.length + n,Cell.lst ((List.range n).map fun k=>PV.ref (S1.length + k)))]):=by
      have:=R3.l
      simp [this]
    have hrl : ((List.range n).map fun k=>PV.ref (S1.length + k)).length <= 1000000:=by simp; omega
    have hT : PV.tup ((d.put n tb).map rowV) = tabV (d.put n tb):=rfl
    have s10 : mRet (mCall cTuple (mCons (mVal (mCompN [none] (gaName 0) (mSeq (mVar 6)) mTrue e__law_b_due_2)) mNil)) (duΓ (tabV tb) (DV d.wd d.ps) n st.length c4 (some (.int (d.pl n))) (some (.ref (S1.length + n)))) S3 = .rt (tabV (d.put n tb)) S3:=by
      unfold duΓ at *
      generalize ((List.range n).map fun k=>PV.ref (S1.length + k)) = refs at *
      generalize (d.put n tb).map rowV = tv at *
      generalize tabV tb = T at *
      generalize DV d.wd d.ps = D at *
      generalize st.length = P at *
      simp -implicitDefEqProofs [hs3,hrl,lim_eq,hc,hT,-srcOf_r]
    have run : tail8 (duΓ (tabV tb) (DV d.wd d.ps) n st.length c4 none none) S1 = .rt (tabV (d.put n tb)) S3:=by
      unfold tail8
      rw [mSeqS_eq,s6]
      show mSeqS _ _ _ _ = _
      rw [mSeqS_eq,s7]
      show mSeqS _ _ _ _ = _
      rw [mSeqS_eq,s8]
      show mSeqS _ _ _ _ = _
      rw [mSeqS_eq,e3]
      exact s10
    rw [start _ run]
    have hpre3 : st <+: S3:=by
      rw [List.prefix_iff_getElem?]
      intro i hi
      have hi1 : i < S1.length:=by rw [<- hS1]; simp; omega
      rw [f3 i (.inl hi1)]
      obtain ⟨m,hm⟩:=hpre2
      rw [<- hm,List.getElem?_append_left hi1,<- hS1,List.getElem?_append_left hi,List.getElem?_eq_getElem hi]
    obtain ⟨m,hm⟩:=hpre3
    rw [<- hm]
    exact fin_goodA (by simp [good,tabV,rowV])
  · rw [if_neg hfit]
    have run : tail8 (duΓ (tabV tb) (DV d.wd d.ps) n st.length c4 none none) S1 = .rt (.str "short") S1:=by
      have a0:=h0 S1
      have a1:=h1 S1
      have a2:=hal S1
      unfold Dd.fits at hfit
      rw [Bool.not_eq_true,Bool.or_eq_false_iff] at hfit
      have q : ¬ d.wd = "make" := fun z=>by rw [hwM.mp z] at hfit; cases hfit.1
      have hk2 : rightsF tb d.h < d.k:=by have:=of_decide_eq_false hfit.2; omega
      have t : (tAndM (toB (mOp oNe (mOp oIx (mVar 1) (mC (.int 0))) (mC (.str "make")))) (toB (mOp oLt (mCallF 2 F__law_b_rights (mCons (mVar 0) (mCons (mOp oIx (mVar 1) (mC (.int 1))) mNil))) (mOp oIx (mVar 1) (mNeg (mC (.int 1))))))) (duΓ (tabV tb) (DV d.wd d.ps) n st.length c4 none none) S1 = .ok true S1:=by
        unfold duΓ
        generalize d.wd = wd at *
        generalize DV wd d.ps = D at *
        generalize st.length = P at *
        generalize rightsF tb d.h = r at *
        generalize tabV tb = T at *
        simp -implicitDefEqProofs [a0,a1,a2,q,hr,hk2,-oIx_tup]
      unfold tail8
      rw [mSeqS_eq,mIfS_eq,t,sbind_ok,if_pos rfl]
      rfl
    rw [start _ run]
    exact hfs
theorem eq_tab {a b : List (List Int)} (st : Store) (h : a = b) : oNe st (tabV a) (tabV b) = .ok (.bl false) st:=by
  subst h
  have g : good dep (tabV a) = true:=by simp [good,dep,tabV,rowV]
  have hp:=peq_self g
  have hd : der st (tabV a) = tabV a:=rfl
  simp [oNe,hd,g,hp]
theorem same8 {n : Nat} {tb : List (List Int)} (w : Wt' n tb) (wd : Str) (ps : List Int) (hl : ps.length <= 4) (st : Store) : ∃ v,F__law_b_told [tabV tb,DV wd ps] st = .ok v st /\ F__law_b_due [tabV tb,DV wd ps] st = .ok v st /\ oNe st v v = .ok (.bl false) st:=by
  have hs : ∀ s : Str,oNe st (.str s) (.str s) = .ok (.bl false) st:=fun s=>by simp
  have nod : (szD wd ≠ ps.length + 1 \/ ∃ k,k < 1 /\ ∀ st,oIx st (DV wd ps) (.int (-1)) = .ok (.int k) st) -> ∃ v,F__law_b_told [tabV tb,DV wd ps] st = .ok v st /\ F__law_b_due [tabV tb,DV wd ps] st = .ok v st /\ oNe st v v = .ok (.bl false) st:=fun h=>⟨_,told_nodeed hl h st,due_nodeed w.len h st,hs _⟩
  have ofd : ∀ d : Dd,d.ok n -> d.V = DV wd ps -> ∃ v,F__law_b_told [tabV tb,DV wd ps] st = .ok v st /\ F__law_b_due [tabV tb,DV wd ps] st = .ok v st /\ oNe st v v = .ok (.bl false) st:=fun d o e=>by
    rw [<- e]
    refine ⟨_,told_dd w o st,due_dd w o st,?_⟩
    by_cases q : d.fits tb = true
    · rw [if_pos q]; exact eq_tab st rfl
    · rw [if_neg q]; exact hs _
  by_cases q : szD wd = ps.length + 1
  · have three : wd = "make" \/ wd = "use" -> ∃ v,F__law_b_told [tabV tb,DV wd ps] st = .ok v st /\ F__law_b_due [tabV tb,DV wd ps] st = .ok v st /\ oNe st v v = .ok (.bl false) st:=fun hw=>by
      have h3 : szD wd = 3:=by rcases hw with rfl | rfl <;> decide
      have hlen : ps.length = 2:=by omega
      match ps,hlen with
      | [a,k],_=>
      by_cases hk : k < 1
      · exact nod (.inr ⟨k,hk,fun _=>rfl⟩)
      · cases ha : inH n a with
        | false=>exact ⟨_,told_house3 w.len hw (by omega) ha st,due_house (hs:=[a]) (k:=k) w.len q (by omega) (fun _=>rfl) rfl (by simp) (by simp [ha]) st,hs _⟩
        | true=>
          unfold inH at ha
          simp only [Bool.and_eq_true,decide_eq_true_eq] at ha
          obtain ⟨h,rfl⟩ : ∃ h : Nat,a = h:=⟨a.toNat,by omega⟩
          rcases hw with rfl | rfl
          · exact ofd (.mk h k) ⟨by omega,by omega⟩ rfl
          · exact ofd (.us h k) ⟨by omega,by omega⟩ rfl
    by_cases m1 : wd = "make"
    · exact three (.inl m1)
    · by_cases m2 : wd = "use"
      · exact three (.inr m2)
      · by_cases m3 : wd = "lend"
        · subst m3
          have h4 : szD "lend" = 4:=by decide
          have hlen : ps.length = 3:=by omega
          match ps,hlen with
          | [a,b,k],_=>
          by_cases hk : k < 1
          · exact nod (.inr ⟨k,hk,fun _=>rfl⟩)
          · cases ha : inH n a with
            | false=>exact ⟨_,told_houseL w.len (by omega) (.inl ha) st,due_house (hs:=[a,b]) (k:=k) w.len q (by omega) (fun _=>rfl) rfl (by simp) (by simp [ha]) st,hs _⟩
            | true=>
              cases hb : inH n b with
              | false=>exact ⟨_,told_houseL w.len (by omega) (.inr (.inl hb)) st,due_house (hs:=[a,b]) (k:=k) w.len q (by omega) (fun _=>rfl) rfl (by simp) (by simp [hb]) st,hs _⟩
              | true=>
                by_cases hab : a = b
                · subst hab
                  exact ⟨_,told_houseL w.len (by omega) (.inr (.inr rfl)) st,due_same w.len (by omega) ha st,hs _⟩
                · unfold inH at ha hb
                  simp only [Bool.and_eq_true,decide_eq_true_eq] at ha hb
                  obtain ⟨h,rfl⟩ : ∃ h : Nat,a = h:=⟨a.toNat,by omega⟩
                  obtain ⟨g,rfl⟩ : ∃ g : Nat,b = g:=⟨b.toNat,by omega⟩
                  exact ofd (.ld h g k) ⟨by omega,by omega,by omega,by omega⟩ rfl
        · exfalso
          unfold szD at q
          rw [if_neg m1,if_neg m2,if_neg m3] at q
          omega
  · exact nod (.inl q)
abbrev lw8 (ns : List Int) (n : Nat) (tb : List (List Int)) (a : Nat) (b4 b5 : Option PV) : Gam:=[some (.fro (ns.map .int)),some (.int n),some (tabV tb),some (.int a),b4,b5]
theorem turn8 {n : Nat} {tb : List (List Int)} (w : Wt' n tb) (ns : List Int) (a k : Nat) (hk : k <= 1000) (b5 : Option PV) (st : Store) : ∃ c5,b_law_1 (lw8 ns n tb a (some (.int k)) b5) st = .nx (lw8 ns n tb a (some (.int k)) c5) st:=by
  have hd:=draw_ok ns k st hk
  generalize drawI ns k = d at *
  obtain ⟨wd,ps,hl,e1⟩:=tuple_ok w d st
  have e1 : F__law_b_tuple [tabV tb,.int d] st = .ok (DV wd ps) st:=e1
  obtain ⟨v,e2,e3,e4⟩:=same8 w wd ps hl st
  refine ⟨some (DV wd ps),?_⟩
  unfold lw8
  generalize DV wd ps = D at *
  generalize ns.map PV.int = nv at *
  generalize tabV tb = T at *
  simp -implicitDefEqProofs [b_law_1,hd,e1,e2,e3,e4,-oNe_int]
theorem law_true (ns : List Int) : F_law [.fro (ns.map .int)] [] = .ok (.bl true) []:=by
  have d0:=draw_ok ns 0 [] (by decide)
  rw [show ((0 : Nat) : Int) = 0 from rfl] at d0
  generalize drawI ns 0 = d at *
  obtain ⟨n,hn1,hn8,en⟩ : ∃ n : Nat,1 <= n /\ n <= 8 /\ ∀ X : MS,(mSeqS (mSet 1 (mOp oAdd (mC (.int 1)) (mOp oMod (mCallF 2 F__law_b_draw (mCons (mVar 0) (mCons (mC (.int 0)) mNil))) (mC (.int 4)))))
    (mSeqS (mIfS (toB (mOp oEq (mOp oMod (mOp oDiv (mCallF 2 F__law_b_draw (mCons (mVar 0) (mCons (mC (.int 0)) mNil))) (mC (.int 4))) (mC (.int 6))) (mC (.int 1)))) (mSet 1 (mOp oAdd (mVar 1) (mC (.int 4)))) mNext) X)) [some (.fro (ns.map .int)),none,none,none,none,none] [] = X [some (.fro (ns.map .int)),some (.int n),none,none,none,none] []:=by
    have h5:=emod_lt d (b:=4) (by decide)
    obtain ⟨z,hz⟩ : ∃ z,1 + d % 4 = z:=⟨_,rfl⟩
    generalize ns.map PV.int = nv at *
    by_cases q : d / 4 % 6 = 1
    · obtain ⟨m,hm⟩ : ∃ m : Nat,z + 4 = m:=⟨(z + 4).toNat,by omega⟩
      refine ⟨m,by omega,by omega,fun X=>?_⟩
      simp -implicitDefEqProofs [d0,q,hz,hm]
    · obtain ⟨m,hm⟩ : ∃ m : Nat,z = m:=⟨z.toNat,by omega⟩
      refine ⟨m,by omega,by omega,fun X=>?_⟩
      rw [hm] at hz
      simp -implicitDefEqProofs [d0,q,hz]
  obtain ⟨tb,w,e1⟩:=table_ok8 ns hn1 hn8
  obtain ⟨a,ha⟩ : ∃ a : Nat,1 + n * (n + 1) = a:=⟨_,rfl⟩
  have ha73 : a <= 73:=by
    have : n * (n + 1) <= 8 * 9:=Nat.mul_le_mul (by omega) (by omega)
    omega
  have ha' : (1 : Int) + (n : Int) * ((n : Int) + 1) = a:=by rw [<- ha]; push_cast; rfl
  have hb : -18446744073709551616 < (n : Int) /\ (n : Int) < 18446744073709551616:=by omega
  have hb2 : -18446744073709551616 < (n : Int) + 1 /\ (n : Int) + 1 < 18446744073709551616:=by omega
  have s23 : ∀ X : MS,(mSeqS (mSet 2 (mCallF 3 F__law_b_table (mCons (mVar 0) (mCons (mVar 1) (mCons (mC (.int 1)) mNil)))))
    (mSeqS (mSet 3 (mOp oAdd (mC (.int 1)) (mOp oMul (mVar 1) (mOp oAdd (mVar 1) (mC (.int 1)))))) X)) [some (.fro (ns.map .int)),some (.int n),none,none,none,none] [] = X (lw8 ns n tb a none none) []:=fun X=>by
    unfold lw8
    generalize ns.map PV.int = nv at *
    generalize tabV tb = T at *
    simp -implicitDefEqProofs [e1,hb,hb2,ha']
  have hL : cLen [] [.fro (ns.map .int)] = .ok (.int ns.length) []:=by simp
  obtain ⟨mn,hmn,hmn2⟩ : ∃ mn : Int,(if (a : Int) + 40 < (ns.length : Int) then (a : Int) + 40 else (ns.length : Int)) = mn /\ mn <= a + 40:=by
    by_cases q : (a : Int) + 40 < (ns.length : Int)
    · exact ⟨_,if_pos q,Int.le_refl _⟩
    · exact ⟨_,if_neg q,by omega⟩
  obtain ⟨mx,hmx,hmx2,hmx3⟩ : ∃ mx : Int,(if (a : Int) + 6 < mn then mn else (a : Int) + 6) = mx /\ mx <= a + 40 /\ (a : Int) <= mx:=by
    by_cases q : (a : Int) + 6 < mn
    · exact ⟨_,if_pos q,hmn2,by omega⟩
    · exact ⟨_,if_neg q,by omega,by omega⟩
  obtain ⟨m,hm⟩ : ∃ m : Nat,(mx - (a : Int)).toNat = m:=⟨_,rfl⟩
  have hm40 : m <= 40:=by omega
  obtain ⟨Γ',S',e,b4,b5,rfl,rfl⟩:=forG_inv (g:=fun k : Nat=>PV.int ((a : Int) + (k : Int))) (xs:=List.range m) (ga:=gaName 4) (body:=b_law_1) (w:=[]) (Γ:=lw8 ns n tb a none none) (st:=[])
    (fun _ Γ st'=>∃ b4 b5,Γ = lw8 ns n tb a b4 b5 /\ st' = [])
    (fun _ _ _ _=>by simp)
    (fun i k Γ st' hx ⟨b4,b5,e1,e2⟩=>by
      subst e1; subst e2
      have hk : k < m:=List.mem_range.mp (List.mem_of_getElem? hx)
      obtain ⟨c5,e3⟩:=turn8 w ns a (a + k) (by omega) b5 []
      rw [show ((a + k : Nat) : Int) = (a : Int) + (k : Int) by push_cast; rfl] at e3
      exact ⟨_,rfl,_,_,e3,_,_,rfl,rfl⟩)
    ⟨_,_,rfl,rfl⟩
  have e : forG (gaName 4) b_law_1 [] (rangeI a m) (lw8 ns n tb a none none) [] = .nx (lw8 ns n tb a b4 b5) []:=e
  have hr1 : -1000000 <= (a : Int) /\ (a : Int) <= 1000000 /\ -1000000 <= mx /\ mx <= 1000000:=by omega
  have step : m_law [some (.fro (ns.map .int)),none,none,none,none,none] [] = .rt (.bl true) []:=by
    unfold m_law
    rw [en,s23]
    have s4 : mFor (gaName 4) (mRange2 (mCons (mVar 3) (mCons (mCall cMax (mCons (mOp oAdd (mVar 3) (mC (.int 6))) (mCons (mCall cMin (mCons (mCall cLen (mCons (mVar 0) mNil)) (mCons (mOp oAdd (mVar 3) (mC (.int 40))) mNil))) mNil))) mNil))) b_law_1 (lw8 ns n tb a none none) [] = .nx (lw8 ns n tb a b4 b5) []:=by
      unfold lw8 at *
      generalize (ns.length : Int) = LL at *
      generalize ns.map PV.int = nv at *
      generalize tabV tb = T at *
      simp -implicitDefEqProofs [hL,hmn,hmx,hr1,lim_eq,hm,e,-cLen_fro]
    rw [mSeqS_eq,s4]
    rfl
  show callF m_law 6 _ [] = _
  unfold callF
  rw [show (([PV.fro (ns.map .int)] : List PV).map some ++ List.replicate (6 - [PV.fro (ns.map .int)].length) none) = [some (.fro (ns.map .int)),none,none,none,none,none] from rfl,step]
  simp [fin,fz]
theorem law_all : ∀ ns : List Int,ns.length <= 63 -> ∃ st',F_law [.fro (ns.map .int)] [] = .ok (.bl true) st':=fun ns _=>⟨[],law_true ns⟩
end Lw
namespace Lw
open PySem PySem.Spec L2 Sm
theorem all_mk {l : PySem.W.OpenLaw} {w : World} {K : PySem.W.Frag} {h : Heap} {mg : Str -> Option Value} {fa f1 f2 f3 f4 f5 f6 f7 f8 f9 f10 f11 f12 f13 f14 f15 f16 f17 f18 f19 : Addr} (X : K.In h) (G : h.Ns mainGlobals mg) (hfa : mg "law" = some (.ref fa))
    {od1 an1 od2 an2 od3 an3 od4 an4 od5 an5 od6 an6 od7 an7 od8 an8 od9 an9 od10 an10 od11 an11 od12 an12 od13 an13 od14 an14 od15 an15 od16 an16 od17 an17 od18 an18 od19 an19 : Option Addr}
    {sl1 sl2 sl3 sl4 sl5 sl6 sl7 sl8 sl9 sl10 sl11 sl12 sl13 sl14 sl15 sl16 sl17 sl18 sl19 : Array (Option Value)}
    {oc1 kV1 dc1 pm1 cd1 ct1 oc2 kV2 dc2 pm2 cd2 ct2 oc3 kV3 dc3 pm3 cd3 ct3 oc4 kV4 dc4 pm4 cd4 ct4 oc5 kV5 dc5 pm5 cd5 ct5 oc6 kV6 dc6 pm6 cd6 ct6 oc7 kV7 dc7 pm7 cd7 ct7 oc8 kV8 dc8 pm8 cd8 ct8 oc9 kV9 dc9 pm9 cd9 ct9 oc10 kV10 dc10 pm10 cd10 ct10 oc11 kV11 dc11 pm11 cd11 ct11 oc12 kV12 dc12 pm12 cd12 ct12 oc13 kV13 dc13 pm13 cd13 ct13 oc14 kV14 dc14 pm14 cd14 ct14 oc15 kV15 dc15 pm15 cd15 ct15 oc16 kV16 dc16 pm16 cd16 ct16 oc17 kV17 dc17 pm17 cd17 ct17 oc18 kV18 dc18 pm18 cd18 ct18 oc19 kV19 dc19 pm19 cd19 ct19 : Value}
    {e_NoDeed e_NoHouse : Addr}
    {ee0 ee1 ee2 ee3 ee4 ee5 ee6 ee7 ee8 ee9 ee10 ee11 ee12 ee13 ee14 : Addr} {cdx3 cdx2 cdx14 : ClassData} {eW eS fI pd xN : Addr} {xnm xqn : Str} {xbs xsub : List Value} {xsn : List Str} {xab : Bool} {xcol : Option Bool} {xdd odI anI : Option Addr} {xk0 xk1 xk2 xk3 xk5 : Option Value} {slI : Array (Option Value)} {kVI dcI pmI cdI ctI : Value} {pt1 pt2 pt3 pu1 pu2 pu3 : Tok} {pep : Nat}
    (a1 : PySem.W.nsIn K mainGlobals "is_whole" = some (some (.ref f1))) (l1 : K.lookup f1 = some ⟨oc1,od1,.func (PySem.W.fnOf "is_whole" "is_whole" (defArgs s_is_whole) (defBody s_is_whole) (defScope s_is_whole) .none kV1 dc1 pm1 an1 cd1 ct1),sl1⟩) (c1 : PySem.W.codeIn K cd1 "is_whole" = true) (k1 : PySem.W.keepIn K (.ref f1) = true)
    (a2 : PySem.W.nsIn K mainGlobals "is_between" = some (some (.ref f2))) (l2 : K.lookup f2 = some ⟨oc2,od2,.func (PySem.W.fnOf "is_between" "is_between" (defArgs s_is_between) (defBody s_is_between) (defScope s_is_between) .none kV2 dc2 pm2 an2 cd2 ct2),sl2⟩) (c2 : PySem.W.codeIn K cd2 "is_between" = true) (k2 : PySem.W.keepIn K (.ref f2) = true)
    (a3 : PySem.W.nsIn K mainGlobals "is_house" = some (some (.ref f3))) (l3 : K.lookup f3 = some ⟨oc3,od3,.func (PySem.W.fnOf "is_house" "is_house" (defArgs s_is_house) (defBody s_is_house) (defScope s_is_house) .none kV3 dc3 pm3 an3 cd3 ct3),sl3⟩) (c3 : PySem.W.codeIn K cd3 "is_house" = true) (k3 : PySem.W.keepIn K (.ref f3) = true)
    (a4 : PySem.W.nsIn K mainGlobals "rights" = some (some (.ref f4))) (l4 : K.lookup f4 = some ⟨oc4,od4,.func (PySem.W.fnOf "rights" "rights" (defArgs s_rights) (defBody s_rights) (defScope s_rights) .none kV4 dc4 pm4 an4 cd4 ct4),sl4⟩) (c4 : PySem.W.codeIn K cd4 "rights" = true) (k4 : PySem.W.keepIn K (.ref f4) = true)
    (a5 : PySem.W.nsIn K mainGlobals "is_text_and_numbers" = some (some (.ref f5))) (l5 : K.lookup f5 = some ⟨oc5,od5,.func (PySem.W.fnOf "is_text_and_numbers" "is_text_and_numbers" (defArgs s_is_text_and_numbers) (defBody s_is_text_and_numbers) (defScope s_is_text_and_numbers) .none kV5 dc5 pm5 an5 cd5 ct5),sl5⟩) (c5 : PySem.W.codeIn K cd5 "is_text_and_numbers" = true) (k5 : PySem.W.keepIn K (.ref f5) = true)
    (a6 : PySem.W.nsIn K mainGlobals "is_deed" = some (some (.ref f6))) (l6 : K.lookup f6 = some ⟨oc6,od6,.func (PySem.W.fnOf "is_deed" "is_deed" (defArgs s_is_deed) (defBody s_is_deed) (defScope s_is_deed) .none kV6 dc6 pm6 an6 cd6 ct6),sl6⟩) (c6 : PySem.W.codeIn K cd6 "is_deed" = true) (k6 : PySem.W.keepIn K (.ref f6) = true)
    (a7 : PySem.W.nsIn K mainGlobals "need_houses_of_deed" = some (some (.ref f7))) (l7 : K.lookup f7 = some ⟨oc7,od7,.func (PySem.W.fnOf "need_houses_of_deed" "need_houses_of_deed" (defArgs s_need_houses_of_deed) (defBody s_need_houses_of_deed) (defScope s_need_houses_of_deed) .none kV7 dc7 pm7 an7 cd7 ct7),sl7⟩) (c7 : PySem.W.codeIn K cd7 "need_houses_of_deed" = true) (k7 : PySem.W.keepIn K (.ref f7) = true)
    (a8 : PySem.W.nsIn K mainGlobals "place_in_row" = some (some (.ref f8))) (l8 : K.lookup f8 = some ⟨oc8,od8,.func (PySem.W.fnOf "place_in_row" "place_in_row" (defArgs s_place_in_row) (defBody s_place_in_row) (defScope s_place_in_row) .none kV8 dc8 pm8 an8 cd8 ct8),sl8⟩) (c8 : PySem.W.codeIn K cd8 "place_in_row" = true) (k8 : PySem.W.keepIn K (.ref f8) = true)
    (a9 : PySem.W.nsIn K mainGlobals "raised" = some (some (.ref f9))) (l9 : K.lookup f9 = some ⟨oc9,od9,.func (PySem.W.fnOf "raised" "raised" (defArgs s_raised) (defBody s_raised) (defScope s_raised) .none kV9 dc9 pm9 an9 cd9 ct9),sl9⟩) (c9 : PySem.W.codeIn K cd9 "raised" = true) (k9 : PySem.W.keepIn K (.ref f9) = true)
    (a10 : PySem.W.nsIn K mainGlobals "done" = some (some (.ref f10))) (l10 : K.lookup f10 = some ⟨oc10,od10,.func (PySem.W.fnOf "done" "done" (defArgs s_done) (defBody s_done) (defScope s_done) .none kV10 dc10 pm10 an10 cd10 ct10),sl10⟩) (c10 : PySem.W.codeIn K cd10 "done" = true) (k10 : PySem.W.keepIn K (.ref f10) = true)
    (a11 : PySem.W.nsIn K mainGlobals "_law_b_draw" = some (some (.ref f11))) (l11 : K.lookup f11 = some ⟨oc11,od11,.func (PySem.W.fnOf "_law_b_draw" "_law_b_draw" (defArgs s__law_b_draw) (defBody s__law_b_draw) (defScope s__law_b_draw) .none kV11 dc11 pm11 an11 cd11 ct11),sl11⟩) (c11 : PySem.W.codeIn K cd11 "_law_b_draw" = true) (k11 : PySem.W.keepIn K (.ref f11) = true)
    (a12 : PySem.W.nsIn K mainGlobals "_law_b_entry" = some (some (.ref f12))) (l12 : K.lookup f12 = some ⟨oc12,od12,.func (PySem.W.fnOf "_law_b_entry" "_law_b_entry" (defArgs s__law_b_entry) (defBody s__law_b_entry) (defScope s__law_b_entry) .none kV12 dc12 pm12 an12 cd12 ct12),sl12⟩) (c12 : PySem.W.codeIn K cd12 "_law_b_entry" = true) (k12 : PySem.W.keepIn K (.ref f12) = true)
    (a13 : PySem.W.nsIn K mainGlobals "_law_b_table" = some (some (.ref f13))) (l13 : K.lookup f13 = some ⟨oc13,od13,.func (PySem.W.fnOf "_law_b_table" "_law_b_table" (defArgs s__law_b_table) (defBody s__law_b_table) (defScope s__law_b_table) .none kV13 dc13 pm13 an13 cd13 ct13),sl13⟩) (c13 : PySem.W.codeIn K cd13 "_law_b_table" = true) (k13 : PySem.W.keepIn K (.ref f13) = true)
    (a14 : PySem.W.nsIn K mainGlobals "_law_b_rights" = some (some (.ref f14))) (l14 : K.lookup f14 = some ⟨oc14,od14,.func (PySem.W.fnOf "_law_b_rights" "_law_b_rights" (defArgs s__law_b_rights) (defBody s__law_b_rights) (defScope s__law_b_rights) .none kV14 dc14 pm14 an14 cd14 ct14),sl14⟩) (c14 : PySem.W.codeIn K cd14 "_law_b_rights" = true) (k14 : PySem.W.keepIn K (.ref f14) = true)
    (a15 : PySem.W.nsIn K mainGlobals "_law_b_told" = some (some (.ref f15))) (l15 : K.lookup f15 = some ⟨oc15,od15,.func (PySem.W.fnOf "_law_b_told" "_law_b_told" (defArgs s__law_b_told) (defBody s__law_b_told) (defScope s__law_b_told) .none kV15 dc15 pm15 an15 cd15 ct15),sl15⟩) (c15 : PySem.W.codeIn K cd15 "_law_b_told" = true) (k15 : PySem.W.keepIn K (.ref f15) = true)
    (a16 : PySem.W.nsIn K mainGlobals "_law_b_house" = some (some (.ref f16))) (l16 : K.lookup f16 = some ⟨oc16,od16,.func (PySem.W.fnOf "_law_b_house" "_law_b_house" (defArgs s__law_b_house) (defBody s__law_b_house) (defScope s__law_b_house) .none kV16 dc16 pm16 an16 cd16 ct16),sl16⟩) (c16 : PySem.W.codeIn K cd16 "_law_b_house" = true) (k16 : PySem.W.keepIn K (.ref f16) = true)
    (a17 : PySem.W.nsIn K mainGlobals "_law_b_tuple" = some (some (.ref f17))) (l17 : K.lookup f17 = some ⟨oc17,od17,.func (PySem.W.fnOf "_law_b_tuple" "_law_b_tuple" (defArgs s__law_b_tuple) (defBody s__law_b_tuple) (defScope s__law_b_tuple) .none kV17 dc17 pm17 an17 cd17 ct17),sl17⟩) (c17 : PySem.W.codeIn K cd17 "_law_b_tuple" = true) (k17 : PySem.W.keepIn K (.ref f17) = true)
    (a18 : PySem.W.nsIn K mainGlobals "_law_b_due" = some (some (.ref f18))) (l18 : K.lookup f18 = some ⟨oc18,od18,.func (PySem.W.fnOf "_law_b_due" "_law_b_due" (defArgs s__law_b_due) (defBody s__law_b_due) (defScope s__law_b_due) .none kV18 dc18 pm18 an18 cd18 ct18),sl18⟩) (c18 : PySem.W.codeIn K cd18 "_law_b_due" = true) (k18 : PySem.W.keepIn K (.ref f18) = true)
    (a19 : PySem.W.nsIn K mainGlobals "law" = some (some (.ref f19))) (l19 : K.lookup f19 = some ⟨oc19,od19,.func (PySem.W.fnOf "law" "law" (defArgs s_law) (defBody s_law) (defScope s_law) .none kV19 dc19 pm19 an19 cd19 ct19),sl19⟩) (c19 : PySem.W.codeIn K cd19 "law" = true) (k19 : PySem.W.keepIn K (.ref f19) = true)
    (z_all : PySem.W.nsIn K mainGlobals "all" = some none)
    (z_any : PySem.W.nsIn K mainGlobals "any" = some none)
    (z_bool : PySem.W.nsIn K mainGlobals "bool" = some none)
    (z_int : PySem.W.nsIn K mainGlobals "int" = some none)
    (z_isinstance : PySem.W.nsIn K mainGlobals "isinstance" = some none)
    (z_len : PySem.W.nsIn K mainGlobals "len" = some none)
    (z_list : PySem.W.nsIn K mainGlobals "list" = some none)
    (z_max : PySem.W.nsIn K mainGlobals "max" = some none)
    (z_min : PySem.W.nsIn K mainGlobals "min" = some none)
    (z_range : PySem.W.nsIn K mainGlobals "range" = some none)
    (z_str : PySem.W.nsIn K mainGlobals "str" = some none)
    (z_sum : PySem.W.nsIn K mainGlobals "sum" = some none)
    (z_tuple : PySem.W.nsIn K mainGlobals "tuple" = some none)
    (n_NoDeed : PySem.W.nsIn K mainGlobals "NoDeed" = some (some (.ref e_NoDeed))) (x_NoDeed : PySem.W.excIn K e_NoDeed bmVE "ValueError.__new__" = true)
    (n_NoHouse : PySem.W.nsIn K mainGlobals "NoHouse" = some (some (.ref e_NoHouse))) (x_NoHouse : PySem.W.excIn K e_NoHouse bmVE "ValueError.__new__" = true)
    (nn0 : PySem.W.nsIn K mainGlobals "WharfError" = some (some (.ref ee0)))
    (nn1 : PySem.W.nsIn K mainGlobals "NoTable" = some (some (.ref ee1)))
    (nn2 : PySem.W.nsIn K mainGlobals "NoHouse" = some (some (.ref ee2)))
    (nn3 : PySem.W.nsIn K mainGlobals "NoDeed" = some (some (.ref ee3)))
    (nn4 : PySem.W.nsIn K mainGlobals "NoLetter" = some (some (.ref ee4)))
    (nn5 : PySem.W.nsIn K mainGlobals "NoStand" = some (some (.ref ee5)))
    (nn6 : PySem.W.nsIn K mainGlobals "NoRoad" = some (some (.ref ee6)))
    (nn7 : PySem.W.nsIn K mainGlobals "NoPlan" = some (some (.ref ee7)))
    (nn8 : PySem.W.nsIn K mainGlobals "NoBook" = some (some (.ref ee8)))
    (nn9 : PySem.W.nsIn K mainGlobals "NoManner" = some (some (.ref ee9)))
    (nn10 : PySem.W.nsIn K mainGlobals "TooMany" = some (some (.ref ee10)))
    (nn11 : PySem.W.nsIn K mainGlobals "NoText" = some (some (.ref ee11)))
    (nn12 : PySem.W.nsIn K mainGlobals "NoRow" = some (some (.ref ee12)))
    (nn13 : PySem.W.nsIn K mainGlobals "NoName" = some (some (.ref ee13)))
    (nn14 : PySem.W.nsIn K mainGlobals "Short" = some (some (.ref ee14)))
    (nzValueError : PySem.W.nsIn K mainGlobals "ValueError" = some none)
    (nzany : PySem.W.nsIn K mainGlobals "any" = some none)
    (nzisinstance : PySem.W.nsIn K mainGlobals "isinstance" = some none)
    (xgs : PySem.W.specialIn K (.builtin "object.__class__") "__get__" = some (some (.builtin "getset_descriptor.__get__")))
    (xtk : PySem.W.takesIn K (.builtin "object.__class__") = some true)
    (xcls3 : PySem.W.clsIn K ee3 = some cdx3)
    (xga3 : PySem.W.findIn K (.ref ee3) "__getattribute__" = some (some (.builtin "BaseException.__getattribute__")))
    (xgt3 : PySem.W.findIn K (.ref ee3) "__getattr__" = some none)
    (xcl3 : PySem.W.findIn K (.ref ee3) "__class__" = some (some (.builtin "object.__class__")))
    (xob3 : PySem.W.mroIn K ee3 (.type "object") = some true)
    (xbe3 : PySem.W.mroIn K ee3 (.type "BaseException") = some true)
    (xve3 : PySem.W.kitOne K (.ref ee3) (.type "ValueError") = some true)
    (xex3 : PySem.W.exmOne K (.ref ee3) (.ref ee0) = some true)
    (xk3_1 : PySem.W.kitOne K (.ref ee3) (.ref ee1) = some false)
    (xk3_2 : PySem.W.kitOne K (.ref ee3) (.ref ee2) = some false)
    (xk3_3 : PySem.W.kitOne K (.ref ee3) (.ref ee3) = some true)
    (xk3_4 : PySem.W.kitOne K (.ref ee3) (.ref ee4) = some false)
    (xk3_5 : PySem.W.kitOne K (.ref ee3) (.ref ee5) = some false)
    (xk3_6 : PySem.W.kitOne K (.ref ee3) (.ref ee6) = some false)
    (xk3_7 : PySem.W.kitOne K (.ref ee3) (.ref ee7) = some false)
    (xk3_8 : PySem.W.kitOne K (.ref ee3) (.ref ee8) = some false)
    (xk3_9 : PySem.W.kitOne K (.ref ee3) (.ref ee9) = some false)
    (xk3_10 : PySem.W.kitOne K (.ref ee3) (.ref ee10) = some false)
    (xk3_11 : PySem.W.kitOne K (.ref ee3) (.ref ee11) = some false)
    (xk3_12 : PySem.W.kitOne K (.ref ee3) (.ref ee12) = some false)
    (xk3_13 : PySem.W.kitOne K (.ref ee3) (.ref ee13) = some false)
    (xk3_14 : PySem.W.kitOne K (.ref ee3) (.ref ee14) = some false)
    (xcls2 : PySem.W.clsIn K ee2 = some cdx2)
    (xga2 : PySem.W.findIn K (.ref ee2) "__getattribute__" = some (some (.builtin "BaseException.__getattribute__")))
    (xgt2 : PySem.W.findIn K (.ref ee2) "__getattr__" = some none)
    (xcl2 : PySem.W.findIn K (.ref ee2) "__class__" = some (some (.builtin "object.__class__")))
    (xob2 : PySem.W.mroIn K ee2 (.type "object") = some true)
    (xbe2 : PySem.W.mroIn K ee2 (.type "BaseException") = some true)
    (xve2 : PySem.W.kitOne K (.ref ee2) (.type "ValueError") = some true)
    (xex2 : PySem.W.exmOne K (.ref ee2) (.ref ee0) = some true)
    (xk2_1 : PySem.W.kitOne K (.ref ee2) (.ref ee1) = some false)
    (xk2_2 : PySem.W.kitOne K (.ref ee2) (.ref ee2) = some true)
    (xk2_3 : PySem.W.kitOne K (.ref ee2) (.ref ee3) = some false)
    (xk2_4 : PySem.W.kitOne K (.ref ee2) (.ref ee4) = some false)
    (xk2_5 : PySem.W.kitOne K (.ref ee2) (.ref ee5) = some false)
    (xk2_6 : PySem.W.kitOne K (.ref ee2) (.ref ee6) = some false)
    (xk2_7 : PySem.W.kitOne K (.ref ee2) (.ref ee7) = some false)
    (xk2_8 : PySem.W.kitOne K (.ref ee2) (.ref ee8) = some false)
    (xk2_9 : PySem.W.kitOne K (.ref ee2) (.ref ee9) = some false)
    (xk2_10 : PySem.W.kitOne K (.ref ee2) (.ref ee10) = some false)
    (xk2_11 : PySem.W.kitOne K (.ref ee2) (.ref ee11) = some false)
    (xk2_12 : PySem.W.kitOne K (.ref ee2) (.ref ee12) = some false)
    (xk2_13 : PySem.W.kitOne K (.ref ee2) (.ref ee13) = some false)
    (xk2_14 : PySem.W.kitOne K (.ref ee2) (.ref ee14) = some false)
    (xcls14 : PySem.W.clsIn K ee14 = some cdx14)
    (xga14 : PySem.W.findIn K (.ref ee14) "__getattribute__" = some (some (.builtin "BaseException.__getattribute__")))
    (xgt14 : PySem.W.findIn K (.ref ee14) "__getattr__" = some none)
    (xcl14 : PySem.W.findIn K (.ref ee14) "__class__" = some (some (.builtin "object.__class__")))
    (xob14 : PySem.W.mroIn K ee14 (.type "object") = some true)
    (xbe14 : PySem.W.mroIn K ee14 (.type "BaseException") = some true)
    (xve14 : PySem.W.kitOne K (.ref ee14) (.type "ValueError") = some true)
    (xex14 : PySem.W.exmOne K (.ref ee14) (.ref ee0) = some true)
    (xk14_1 : PySem.W.kitOne K (.ref ee14) (.ref ee1) = some false)
    (xk14_2 : PySem.W.kitOne K (.ref ee14) (.ref ee2) = some false)
    (xk14_3 : PySem.W.kitOne K (.ref ee14) (.ref ee3) = some false)
    (xk14_4 : PySem.W.kitOne K (.ref ee14) (.ref ee4) = some false)
    (xk14_5 : PySem.W.kitOne K (.ref ee14) (.ref ee5) = some false)
    (xk14_6 : PySem.W.kitOne K (.ref ee14) (.ref ee6) = some false)
    (xk14_7 : PySem.W.kitOne K (.ref ee14) (.ref ee7) = some false)
    (xk14_8 : PySem.W.kitOne K (.ref ee14) (.ref ee8) = some false)
    (xk14_9 : PySem.W.kitOne K (.ref ee14) (.ref ee9) = some false)
    (xk14_10 : PySem.W.kitOne K (.ref ee14) (.ref ee10) = some false)
    (xk14_11 : PySem.W.kitOne K (.ref ee14) (.ref ee11) = some false)
    (xk14_12 : PySem.W.kitOne K (.ref ee14) (.ref ee12) = some false)
    (xk14_13 : PySem.W.kitOne K (.ref ee14) (.ref ee13) = some false)
    (xk14_14 : PySem.W.kitOne K (.ref ee14) (.ref ee14) = some true)
    (nW : PySem.W.nsIn K mainGlobals "WharfError" = some (some (.ref eW)))
    (nS : PySem.W.nsIn K mainGlobals "Short" = some (some (.ref eS)))
    (xlk : K.lookup eS = some (excClassObj xnm xqn eS xN xbs (.ref eW :: bmVE) true xsn xsub xab xcol xdd xk0 xk1 xk2 xk3 xk5 "ValueError.__new__"))
    (xw : PySem.W.excIn K eW bmVE "ValueError.__new__" = true)
    (xfi : PySem.W.findIn K (.ref eS) "__init__" = some (some (.ref fI)))
    (li : K.lookup fI = some ⟨.type "function",odI,.func (PySem.W.fnOf "__init__" "Short.__init__" (defArgs sInit) (defBody sInit) (defScope sInit) .none kVI dcI pmI anI cdI ctI),slI⟩)
    (ci : PySem.W.codeIn K cdI "Short.__init__" = true)
    (ki : PySem.W.keepIn K (.ref fI) = true)
    (xkp : PySem.W.keepIn K (.ref eS) = true)
    (xcga : PySem.W.specialIn K (.ref eW) "__getattribute__" = some (some (.builtin "type.__getattribute__")))
    (xcrd : PySem.W.readsIn K eW (.type "type") = true)
    (xcfc : PySem.W.findCls K (.ref eW) (.type "type") "__init__" = some (.val (.builtin "ValueError.__init__")))
    (xsa : PySem.W.findIn K (.ref eS) "__setattr__" = some (some (.builtin "object.__setattr__")))
    (xno : PySem.W.findIn K (.ref eS) "had" = some none)
    (xob : PySem.W.mroIn K eS (.type "object") = some true)
    (xes : PySem.W.exmOne K (.ref eS) (.ref eS) = some true)
    (pns : PySem.W.nsIn K mainGlobals "PARTS_OF_DEED" = some (some (.ref pd)))
    (plk : K.lookup pd = some ⟨.type "dict",none,.dict #[⟨PyData.keyHash w.params "make",.str "make" pt1,.int 3 pu1⟩,⟨PyData.keyHash w.params "lend",.str "lend" pt2,.int 4 pu2⟩,⟨PyData.keyHash w.params "use",.str "use" pt3,.int 3 pu3⟩] pep,#[]⟩)
    (psm : (pd == sysModules) = false)
    (hL : noL K = true) :
    ∃ fd : FuncData,(∀ (s : Shared) (v : Value),BindsTo s fd ⟨[v],[]⟩ [("script",v)]) /\ ∀ base : Heap,K.In base -> base.Ns mainGlobals mg -> FnOk l.prog w K mg base (CXD l.prog w) 7 fa fd ["script"] (spLawS K):=by
  have e:=hfa.symm.trans (PySem.W.mg_of X G a19)
  cases e
  have T : Txt mg:=⟨PySem.W.mg_none_of X G z_all,PySem.W.mg_none_of X G z_any,PySem.W.mg_none_of X G z_bool,PySem.W.mg_none_of X G z_int,PySem.W.mg_none_of X G z_isinstance,PySem.W.mg_none_of X G z_len,PySem.W.mg_none_of X G z_list,PySem.W.mg_none_of X G z_max,PySem.W.mg_none_of X G z_min,PySem.W.mg_none_of X G z_range,PySem.W.mg_none_of X G z_str,PySem.W.mg_none_of X G z_sum,PySem.W.mg_none_of X G z_tuple⟩
  have C_NoDeed : ∃ C,mg "NoDeed" = some (.ref C) /\ PySem.W.excIn K C bmVE "ValueError.__new__" = true:=⟨_,PySem.W.mg_of X G n_NoDeed,x_NoDeed⟩
  have C_NoHouse : ∃ C,mg "NoHouse" = some (.ref C) /\ PySem.W.excIn K C bmVE "ValueError.__new__" = true:=⟨_,PySem.W.mg_of X G n_NoHouse,x_NoHouse⟩
  have Nm : Nms mg (fun i=>[ee0,ee1,ee2,ee3,ee4,ee5,ee6,ee7,ee8,ee9,ee10,ee11,ee12,ee13,ee14].getD i 0):=⟨PySem.W.mg_of X G nn0,PySem.W.mg_of X G nn1,PySem.W.mg_of X G nn2,PySem.W.mg_of X G nn3,PySem.W.mg_of X G nn4,PySem.W.mg_of X G nn5,PySem.W.mg_of X G nn6,PySem.W.mg_of X G nn7,PySem.W.mg_of X G nn8,PySem.W.mg_of X G nn9,PySem.W.mg_of X G nn10,PySem.W.mg_of X G nn11,PySem.W.mg_of X G nn12,PySem.W.mg_of X G nn13,PySem.W.mg_of X G nn14,PySem.W.mg_none_of X G nzValueError,PySem.W.mg_none_of X G nzany,PySem.W.mg_none_of X G nzisinstance⟩
  have XC3 : XCls K ee3:=⟨show (PySem.W.clsIn K ee3).isSome = true by rw [xcls3]; rfl,xga3,xgt3,xcl3,xgs,xtk,xob3,xbe3⟩
  have T3 : TgtS K (fun i=>[ee0,ee1,ee2,ee3,ee4,ee5,ee6,ee7,ee8,ee9,ee10,ee11,ee12,ee13,ee14].getD i 0) 3:=⟨XC3,xve3,xex3,fun i h1 h2=>match i,h1,h2 with | 0,h,_=>absurd h (by omega) | 1,_,_=>xk3_1 | 2,_,_=>xk3_2 | 3,_,_=>xk3_3 | 4,_,_=>xk3_4 | 5,_,_=>xk3_5 | 6,_,_=>xk3_6 | 7,_,_=>xk3_7 | 8,_,_=>xk3_8 | 9,_,_=>xk3_9 | 10,_,_=>xk3_10 | 11,_,_=>xk3_11 | 12,_,_=>xk3_12 | 13,_,_=>xk3_13 | 14,_,_=>xk3_14 | _ + 15,_,h=>absurd h (by omega)⟩
  have XC2 : XCls K ee2:=⟨show (PySem.W.clsIn K ee2).isSome = true by rw [xcls2]; rfl,xga2,xgt2,xcl2,xgs,xtk,xob2,xbe2⟩
  have T2 : TgtS K (fun i=>[ee0,ee1,ee2,ee3,ee4,ee5,ee6,ee7,ee8,ee9,ee10,ee11,ee12,ee13,ee14].getD i 0) 2:=⟨XC2,xve2,xex2,fun i h1 h2=>match i,h1,h2 with | 0,h,_=>absurd h (by omega) | 1,_,_=>xk2_1 | 2,_,_=>xk2_2 | 3,_,_=>xk2_3 | 4,_,_=>xk2_4 | 5,_,_=>xk2_5 | 6,_,_=>xk2_6 | 7,_,_=>xk2_7 | 8,_,_=>xk2_8 | 9,_,_=>xk2_9 | 10,_,_=>xk2_10 | 11,_,_=>xk2_11 | 12,_,_=>xk2_12 | 13,_,_=>xk2_13 | 14,_,_=>xk2_14 | _ + 15,_,h=>absurd h (by omega)⟩
  have XC14 : XCls K ee14:=⟨show (PySem.W.clsIn K ee14).isSome = true by rw [xcls14]; rfl,xga14,xgt14,xcl14,xgs,xtk,xob14,xbe14⟩
  have T14 : TgtS K (fun i=>[ee0,ee1,ee2,ee3,ee4,ee5,ee6,ee7,ee8,ee9,ee10,ee11,ee12,ee13,ee14].getD i 0) 14:=⟨XC14,xve14,xex14,fun i h1 h2=>match i,h1,h2 with | 0,h,_=>absurd h (by omega) | 1,_,_=>xk14_1 | 2,_,_=>xk14_2 | 3,_,_=>xk14_3 | 4,_,_=>xk14_4 | 5,_,_=>xk14_5 | 6,_,_=>xk14_6 | 7,_,_=>xk14_7 | 8,_,_=>xk14_8 | 9,_,_=>xk14_9 | 10,_,_=>xk14_10 | 11,_,_=>xk14_11 | 12,_,_=>xk14_12 | 13,_,_=>xk14_13 | 14,_,_=>xk14_14 | _ + 15,_,h=>absurd h (by omega)⟩
  have CD : ∃ cd,PySem.W.clsIn K eS = some cd /\ cd.mro = .ref eS :: .ref eW :: bmVE /\ cd.hasDict = true:=⟨_,by unfold PySem.W.clsIn; rw [xlk],rfl,rfl⟩
  have OS : ShortOk K mg eW eS fI:=⟨PySem.W.mg_of X G nW,PySem.W.mg_of X G nS,⟨⟨_,_,_,_,_,_,_,_,_,_,_,_,_,_,xlk⟩,xw,xfi,⟨_,li,rfl⟩,xkp⟩,⟨xcga,xcrd,xcfc⟩,⟨xsa,xob,CD,xno⟩⟩
  have FI:=fun_mk (x := "__init__") (qual := "Short.__init__") (st:=sInit) li ci ki
  have BI:=FI.binds (ps:=["self", "had"]) fun _ _ _ _ _ _ us hl=>match us,hl with | [_,_],_=>rfl
  have PK : PartsOk l.prog w K mg:=parts_mk (PySem.W.mg_of X G pns) plk psm
  have Sx : ∃ C,mg "Short" = some (.ref C) /\ PySem.W.exmOne K (.ref C) (.ref C) = some true:=⟨_,OS.ms,xes⟩
  have A1:=atS_mk (st:=s_is_whole) (ps:=["thing"]) X G a1 l1 c1 k1 fun _ _ _ _ _ _ us hl=>match us,hl with | [_],_=>rfl
  have A2:=atS_mk (st:=s_is_between) (ps:=["thing", "least", "most"]) X G a2 l2 c2 k2 fun _ _ _ _ _ _ us hl=>match us,hl with | [_,_,_],_=>rfl
  have A3:=atS_mk (st:=s_is_house) (ps:=["table", "thing"]) X G a3 l3 c3 k3 fun _ _ _ _ _ _ us hl=>match us,hl with | [_,_],_=>rfl
  have A4:=atS_mk (st:=s_rights) (ps:=["table", "house"]) X G a4 l4 c4 k4 fun _ _ _ _ _ _ us hl=>match us,hl with | [_,_],_=>rfl
  have A5:=atS_mk (st:=s_is_text_and_numbers) (ps:=["thing"]) X G a5 l5 c5 k5 fun _ _ _ _ _ _ us hl=>match us,hl with | [_],_=>rfl
  have A6:=atS_mk (st:=s_is_deed) (ps:=["thing"]) X G a6 l6 c6 k6 fun _ _ _ _ _ _ us hl=>match us,hl with | [_],_=>rfl
  have A7:=atS_mk (st:=s_need_houses_of_deed) (ps:=["table", "deed"]) X G a7 l7 c7 k7 fun _ _ _ _ _ _ us hl=>match us,hl with | [_,_],_=>rfl
  have A8:=atS_mk (st:=s_place_in_row) (ps:=["table", "deed"]) X G a8 l8 c8 k8 fun _ _ _ _ _ _ us hl=>match us,hl with | [_,_],_=>rfl
  have A9:=atS_mk (st:=s_raised) (ps:=["table", "house", "place", "k"]) X G a9 l9 c9 k9 fun _ _ _ _ _ _ us hl=>match us,hl with | [_,_,_,_],_=>rfl
  have A10:=atS_mk (st:=s_done) (ps:=["table", "deed"]) X G a10 l10 c10 k10 fun _ _ _ _ _ _ us hl=>match us,hl with | [_,_],_=>rfl
  have A11:=atS_mk (st:=s__law_b_draw) (ps:=["script", "k"]) X G a11 l11 c11 k11 fun _ _ _ _ _ _ us hl=>match us,hl with | [_,_],_=>rfl
  have A12:=atS_mk (st:=s__law_b_entry) (ps:=["draw"]) X G a12 l12 c12 k12 fun _ _ _ _ _ _ us hl=>match us,hl with | [_],_=>rfl
  have A13:=atS_mk (st:=s__law_b_table) (ps:=["script", "n", "at"]) X G a13 l13 c13 k13 fun _ _ _ _ _ _ us hl=>match us,hl with | [_,_,_],_=>rfl
  have A14:=atS_mk (st:=s__law_b_rights) (ps:=["table", "house"]) X G a14 l14 c14 k14 fun _ _ _ _ _ _ us hl=>match us,hl with | [_,_],_=>rfl
  have A15:=atS_mk (st:=s__law_b_told) (ps:=["table", "deed"]) X G a15 l15 c15 k15 fun _ _ _ _ _ _ us hl=>match us,hl with | [_,_],_=>rfl
  have A16:=atS_mk (st:=s__law_b_house) (ps:=["n", "draw"]) X G a16 l16 c16 k16 fun _ _ _ _ _ _ us hl=>match us,hl with | [_,_],_=>rfl
  have A17:=atS_mk (st:=s__law_b_tuple) (ps:=["table", "draw"]) X G a17 l17 c17 k17 fun _ _ _ _ _ _ us hl=>match us,hl with | [_,_],_=>rfl
  have A18:=atS_mk (st:=s__law_b_due) (ps:=["table", "deed"]) X G a18 l18 c18 k18 fun _ _ _ _ _ _ us hl=>match us,hl with | [_,_],_=>rfl
  have A19:=atS_mk (st:=s_law) (ps:=["script"]) X G a19 l19 c19 k19 fun _ _ _ _ _ _ us hl=>match us,hl with | [_],_=>rfl
  refine ⟨PySem.W.fnOf "law" "law" (defArgs s_law) (defBody s_law) (defScope s_law) .none kV19 dc19 pm19 an19 cd19 ct19,fun s v=>.of_eq rfl,fun base kb nb=>?_⟩
  have O_Short : ShortS l.prog w K mg base:=⟨_,_,_,_,OS.M,ok_init FI OS,BI,OS.ms⟩
  have D_is_whole:=A1.def (P:=l.prog) (w:=w) (base:=base) rfl (ok_is_whole A1.F T   )
  have D_is_between:=A2.def (P:=l.prog) (w:=w) (base:=base) rfl (ok_is_between A2.F T   D_is_whole)
  have D_is_house:=A3.def (P:=l.prog) (w:=w) (base:=base) rfl (ok_is_house A3.F T   D_is_between)
  have D_rights:=A4.def (P:=l.prog) (w:=w) (base:=base) rfl (ok_rights A4.F T  C_NoHouse D_is_house)
  have D_is_text_and_numbers:=A5.def (P:=l.prog) (w:=w) (base:=base) rfl (ok_is_text_and_numbers A5.F T   D_is_whole)
  have D_is_deed:=A6.def (P:=l.prog) (w:=w) (base:=base) rfl (ok_is_deed A6.F T PK   D_is_text_and_numbers)
  have D_need_houses_of_deed:=A7.def (P:=l.prog) (w:=w) (base:=base) rfl (ok_need_houses_of_deed A7.F T  C_NoHouse D_is_house)
  have D_place_in_row:=A8.def (P:=l.prog) (w:=w) (base:=base) rfl (ok_place_in_row A8.F T   )
  have D_raised:=A9.def (P:=l.prog) (w:=w) (base:=base) rfl (ok_raised A9.F T   )
  have D_done:=A10.def (P:=l.prog) (w:=w) (base:=base) rfl (ok_done A10.F T O_Short  C_NoDeed D_is_deed D_need_houses_of_deed D_rights D_raised D_place_in_row)
  have D__law_b_draw:=A11.def (P:=l.prog) (w:=w) (base:=base) rfl (ok__law_b_draw A11.F T   )
  have D__law_b_entry:=A12.def (P:=l.prog) (w:=w) (base:=base) rfl (ok__law_b_entry A12.F T   )
  have D__law_b_table:=A13.def (P:=l.prog) (w:=w) (base:=base) rfl (ok__law_b_table A13.F T   D__law_b_entry D__law_b_draw)
  have D__law_b_rights:=A14.def (P:=l.prog) (w:=w) (base:=base) rfl (ok__law_b_rights A14.F T   )
  have D__law_b_told:=A15.def (P:=l.prog) (w:=w) (base:=base) rfl (ok__law_b_told A15.F T Nm T3 T2 T14  D_done)
  have D__law_b_house:=A16.def (P:=l.prog) (w:=w) (base:=base) rfl (ok__law_b_house A16.F T   )
  have D__law_b_tuple:=A17.def (P:=l.prog) (w:=w) (base:=base) rfl (ok__law_b_tuple A17.F T   D__law_b_house D__law_b_rights)
  have D__law_b_due:=A18.def (P:=l.prog) (w:=w) (base:=base) rfl (ok__law_b_due A18.F T   D__law_b_rights)
  exact law_imp hL (ok_law A19.F T   D__law_b_draw D__law_b_table D__law_b_tuple D__law_b_told D__law_b_due) law_all
end Lw
theorem PySem.W.Fast.tw4887539269105621930 : True := trivial
theorem PySem.W.Fast.tw13640060434510997159 : True := trivial
theorem PySem.W.Fast.tw2222318525139841686 : True := trivial
theorem PySem.W.Fast.tw18156691733330230903 : True := trivial
theorem PySem.W.Fast.tw18274099099762528311 : True := trivial
theorem PySem.W.Fast.tw17634780236038940588 : True := trivial
theorem PySem.W.Fast.tw6772427122057609599 : True := trivial
theorem PySem.W.Fast.tw17929068644129477501 : True := trivial
theorem PySem.W.Fast.te16514149641635843314 : True := trivial
open PySem PySem.W PyProof.Rows
set_option maxRecDepth 100000 in
set_option maxHeartbeats 0 in
theorem PySem.Challenge.cw_lendwharf_k08_deeds_refused_holds : PySem.Challenge.rw_lendwharf_k08_deeds_refused.Holds := by
  w_on; o_law; k_head; (case hw=>w_witness2)
  k_fill
  refine Sm.walkS (l:=PySem.Challenge.rw_lendwharf_k08_deeds_refused) (k:=7) rfl ⟨rfl,by decide,by decide⟩ rfl (fun w h Y=>PySem.W.kIn_of Y) ?F
  case F=>
    intro w mg fa h KX G hmg
    refine' Lw.all_mk KX G hmg ?a1 ?l1 ?c1 ?k1 ?a2 ?l2 ?c2 ?k2 ?a3 ?l3 ?c3 ?k3 ?a4 ?l4 ?c4 ?k4 ?a5 ?l5 ?c5 ?k5 ?a6 ?l6 ?c6 ?k6 ?a7 ?l7 ?c7 ?k7 ?a8 ?l8 ?c8 ?k8 ?a9 ?l9 ?c9 ?k9 ?a10 ?l10 ?c10 ?k10 ?a11 ?l11 ?c11 ?k11 ?a12 ?l12 ?c12 ?k12 ?a13 ?l13 ?c13 ?k13 ?a14 ?l14 ?c14 ?k14 ?a15 ?l15 ?c15 ?k15 ?a16 ?l16 ?c16 ?k16 ?a17 ?l17 ?c17 ?k17 ?a18 ?l18 ?c18 ?k18 ?a19 ?l19 ?c19 ?k19 ?z_all ?z_any ?z_bool ?z_int ?z_isinstance ?z_len ?z_list ?z_max ?z_min ?z_range ?z_str ?z_sum ?z_tuple ?n_NoDeed ?x_NoDeed ?n_NoHouse ?x_NoHouse ?nn0 ?nn1 ?nn2 ?nn3 ?nn4 ?nn5 ?nn6 ?nn7 ?nn8 ?nn9 ?nn10 ?nn11 ?nn12 ?nn13 ?nn14 ?nzValueError ?nzany ?nzisinstance ?xgs ?xtk ?xcls3 ?xga3 ?xgt3 ?xcl3 ?xob3 ?xbe3 ?xve3 ?xex3 ?xk3_1 ?xk3_2 ?xk3_3 ?xk3_4 ?xk3_5 ?xk3_6 ?xk3_7 ?xk3_8 ?xk3_9 ?xk3_10 ?xk3_11 ?xk3_12 ?xk3_13 ?xk3_14 ?xcls2 ?xga2 ?xgt2 ?xcl2 ?xob2 ?xbe2 ?xve2 ?xex2 ?xk2_1 ?xk2_2 ?xk2_3 ?xk2_4 ?xk2_5 ?xk2_6 ?xk2_7 ?xk2_8 ?xk2_9 ?xk2_10 ?xk2_11 ?xk2_12 ?xk2_13 ?xk2_14 ?xcls14 ?xga14 ?xgt14 ?xcl14 ?xob14 ?xbe14 ?xve14 ?xex14 ?xk14_1 ?xk14_2 ?xk14_3 ?xk14_4 ?xk14_5 ?xk14_6 ?xk14_7 ?xk14_8 ?xk14_9 ?xk14_10 ?xk14_11 ?xk14_12 ?xk14_13 ?xk14_14 ?nW ?nS ?xlk ?xw ?xfi ?li ?ci ?ki ?xkp ?xcga ?xcrd ?xcfc ?xsa ?xno ?xob ?xes ?pns ?plk ?psm ?hL
    (case a1=>k_is)
    (case l1=>k_is)
    (case c1=>k_is)
    (case k1=>k_is)
    (case a2=>k_is)
    (case l2=>k_is)
    (case c2=>k_is)
    (case k2=>k_is)
    (case a3=>k_is)
    (case l3=>k_is)
    (case c3=>k_is)
    (case k3=>k_is)
    (case a4=>k_is)
    (case l4=>k_is)
    (case c4=>k_is)
    (case k4=>k_is)
    (case a5=>k_is)
    (case l5=>k_is)
    (case c5=>k_is)
    (case k5=>k_is)
    (case a6=>k_is)
    (case l6=>k_is)
    (case c6=>k_is)
    (case k6=>k_is)
    (case a7=>k_is)
    (case l7=>k_is)
    (case c7=>k_is)
    (case k7=>k_is)
    (case a8=>k_is)
    (case l8=>k_is)
    (case c8=>k_is)
    (case k8=>k_is)
    (case a9=>k_is)
    (case l9=>k_is)
    (case c9=>k_is)
    (case k9=>k_is)
    (case a10=>k_is)
    (case l10=>k_is)
    (case c10=>k_is)
    (case k10=>k_is)
    (case a11=>k_is)
    (case l11=>k_is)
    (case c11=>k_is)
    (case k11=>k_is)
    (case a12=>k_is)
    (case l12=>k_is)
    (case c12=>k_is)
    (case k12=>k_is)
    (case a13=>k_is)
    (case l13=>k_is)
    (case c13=>k_is)
    (case k13=>k_is)
    (case a14=>k_is)
    (case l14=>k_is)
    (case c14=>k_is)
    (case k14=>k_is)
    (case a15=>k_is)
    (case l15=>k_is)
    (case c15=>k_is)
    (case k15=>k_is)
    (case a16=>k_is)
    (case l16=>k_is)
    (case c16=>k_is)
    (case k16=>k_is)
    (case a17=>k_is)
    (case l17=>k_is)
    (case c17=>k_is)
    (case k17=>k_is)
    (case a18=>k_is)
    (case l18=>k_is)
    (case c18=>k_is)
    (case k18=>k_is)
    (case a19=>k_is)
    (case l19=>k_is)
    (case c19=>k_is)
    (case k19=>k_is)
    (case z_all=>k_is)
    (case z_any=>k_is)
    (case z_bool=>k_is)
    (case z_int=>k_is)
    (case z_isinstance=>k_is)
    (case z_len=>k_is)
    (case z_list=>k_is)
    (case z_max=>k_is)
    (case z_min=>k_is)
    (case z_range=>k_is)
    (case z_str=>k_is)
    (case z_sum=>k_is)
    (case z_tuple=>k_is)
    (case n_NoDeed=>k_is)
    (case x_NoDeed=>k_exc)
    (case n_NoHouse=>k_is)
    (case x_NoHouse=>k_exc)
    (case nn0=>k_is)
    (case nn1=>k_is)
    (case nn2=>k_is)
    (case nn3=>k_is)
    (case nn4=>k_is)
    (case nn5=>k_is)
    (case nn6=>k_is)
    (case nn7=>k_is)
    (case nn8=>k_is)
    (case nn9=>k_is)
    (case nn10=>k_is)
    (case nn11=>k_is)
    (case nn12=>k_is)
    (case nn13=>k_is)
    (case nn14=>k_is)
    (case nzValueError=>k_is)
    (case nzany=>k_is)
    (case nzisinstance=>k_is)
    (case xgs=>k_is)
    (case xtk=>k_is)
    (case xcls3=>k_is)
    (case xga3=>k_is)
    (case xgt3=>k_is)
    (case xcl3=>k_is)
    (case xob3=>k_is)
    (case xbe3=>k_is)
    (case xve3=>kit_is)
    (case xex3=>kts_exm)
    (case xk3_1=>kit_is)
    (case xk3_2=>kit_is)
    (case xk3_3=>kit_is)
    (case xk3_4=>kit_is)
    (case xk3_5=>kit_is)
    (case xk3_6=>kit_is)
    (case xk3_7=>kit_is)
    (case xk3_8=>kit_is)
    (case xk3_9=>kit_is)
    (case xk3_10=>kit_is)
    (case xk3_11=>kit_is)
    (case xk3_12=>kit_is)
    (case xk3_13=>kit_is)
    (case xk3_14=>kit_is)
    (case xcls2=>k_is)
    (case xga2=>k_is)
    (case xgt2=>k_is)
    (case xcl2=>k_is)
    (case xob2=>k_is)
    (case xbe2=>k_is)
    (case xve2=>kit_is)
    (case xex2=>kts_exm)
    (case xk2_1=>kit_is)
    (case xk2_2=>kit_is)
    (case xk2_3=>kit_is)
    (case xk2_4=>kit_is)
    (case xk2_5=>kit_is)
    (case xk2_6=>kit_is)
    (case xk2_7=>kit_is)
    (case xk2_8=>kit_is)
    (case xk2_9=>kit_is)
    (case xk2_10=>kit_is)
    (case xk2_11=>kit_is)
    (case xk2_12=>kit_is)
    (case xk2_13=>kit_is)
    (case xk2_14=>kit_is)
    (case xcls14=>k_is)
    (case xga14=>k_is)
    (case xgt14=>k_is)
    (case xcl14=>k_is)
    (case xob14=>k_is)
    (case xbe14=>k_is)
    (case xve14=>kit_is)
    (case xex14=>kts_exm)
    (case xk14_1=>kit_is)
    (case xk14_2=>kit_is)
    (case xk14_3=>kit_is)
    (case xk14_4=>kit_is)
    (case xk14_5=>kit_is)
    (case xk14_6=>kit_is)
    (case xk14_7=>kit_is)
    (case xk14_8=>kit_is)
    (case xk14_9=>kit_is)
    (case xk14_10=>kit_is)
    (case xk14_11=>kit_is)
    (case xk14_12=>kit_is)
    (case xk14_13=>kit_is)
    (case xk14_14=>kit_is)
    (case nW=>k_is)
    (case nS=>k_is)
    (case xlk=>k_is)
    (case xw=>k_exc)
    (case xfi=>k_is)
    (case li=>k_is)
    (case ci=>k_is)
    (case ki=>k_is)
    (case xkp=>k_is)
    (case xcga=>k_is)
    (case xcrd=>k_is)
    (case xcfc=>k_is)
    (case xsa=>k_is)
    (case xno=>k_is)
    (case xob=>k_is)
    (case xes=>kts_exm)
    (case pns=>k_is)
    (case plk=>k_is)
    (case psm=>(first | rfl | decide))
    (case hL=>rfl)
