import PyProof.Rows.All
import Wide.All
import OpenK.AllK
import Wide.FinOn
import Lean
import PyProof.EqAt
import PyProof.EqKinds
import PyProof.TupleCall
import PyProof.ZipIter
import PyProof.Draws
import PyProof.SumAny
import PyProof.EnumMake
import PyProof.WalkInts
import PyProof.ExcArgsOwn
import PyProof.ExcAttrAll.ValueError
import PyProof.NsDelKeeps
import KE.KTryMore
import OpenK.KOwn
import PyProof.ListMulRoad
import PyProof.FactsAll.tuple_2
import PyProof.NeKinds
import PyProof.Rows.RuleIs
import PyProof.ExcInit
import PyProof.ExcClass3
import OpenK.KCls
import PyProof.InstStoreFacts
import OpenK.KMake
import PyProof.DictRoads
import PyProof.Rows.CountFlat
import PyProof.ListRange
import PyProof.Rows.SetFrom
import PyProof.CollectStr
import PyProof.Rows.TupMore
import PyProof.AttrMissHeap
import KE.KDictOf
import PyProof.DictWalks
import KE.KSortTup
import PyProof.DictItemsLoops
import KE.KDictList
import PyProof.CallStr
import PySem.Challenge.RW_lendwharf_k56_books_refused_and_papers_l
set_option Elab.async false
set_option linter.all false
set_option maxRecDepth 100000
set_option maxHeartbeats 4000000
noncomputable section
namespace L2
open PySem PySem.Spec PyProof.Rows
abbrev Key:=Sum Int Str
def keyIs:Key->Value->Bool
  | .inl k,v=>Value.isInt k v
  | .inr x,v=>Value.isStrOf x v
def keyH (w:World):Key->Int
  | .inl k=>hashInt k
  | .inr x=>hashStr w x
theorem keyIs_shape:∀ {k:Key} {v:Value},keyIs k v=true->(∃ i t,k=Sum.inl i/\v=Value.int i t)\/(∃ x t,k=Sum.inr x/\v=Value.str x t)
  | .inl i,v,h=>by
    obtain ⟨t,e⟩:=Value.isInt_shape (k:=i) (v:=v) h
    exact .inl ⟨i,t,rfl,e⟩
  | .inr x,v,h=>by
    obtain ⟨t,e⟩:=Value.isStrOf_shape (x:=x) (v:=v) h
    exact .inr ⟨x,t,rfl,e⟩
theorem keyIs_int (i:Int) (t:Tok):keyIs (.inl i) (.int i t)=true:=by simp [keyIs,Value.isInt]
theorem keyIs_str (x:Str) (t:Tok):keyIs (.inr x) (.str x t)=true:=by simp [keyIs,Value.isStrOf]
theorem key_ll (a b:Int):decide ((Sum.inl a:Key)=Sum.inl b)=(a == b):=by
  by_cases e:a=b
  · subst e; simp
  · have h:¬ (Sum.inl a:Key)=Sum.inl b:=fun q=>e (Sum.inl.inj q)
    rw [decide_eq_false h]
    exact (beq_eq_false_iff_ne.mpr e).symm
theorem key_rr (a b:Str):decide ((Sum.inr a:Key)=Sum.inr b)=decide (a=b):=by
  by_cases e:a=b
  · subst e; simp
  · have h:¬ (Sum.inr a:Key)=Sum.inr b:=fun q=>e (Sum.inr.inj q)
    rw [decide_eq_false h,decide_eq_false e]
theorem key_lr (a:Int) (b:Str):decide ((Sum.inl a:Key)=Sum.inr b)=false:=decide_eq_false (fun q=>nomatch q)
theorem key_rl (a:Str) (b:Int):decide ((Sum.inr a:Key)=Sum.inl b)=false:=decide_eq_false (fun q=>nomatch q)
def mixKind (prog:Program) (w:World):PySem.KeyKind prog w Key where
  is:=keyIs
  hash:=keyH w
  inj:=fun v a b ha hb=>by
    rcases keyIs_shape ha with ⟨i,t,rfl,rfl⟩ | ⟨x,t,rfl,rfl⟩
    · rcases keyIs_shape hb with ⟨j,u,rfl,e⟩ | ⟨y,u,rfl,e⟩
      · injection e with e1 _; rw [e1]
      · exact nomatch e
    · rcases keyIs_shape hb with ⟨j,u,rfl,e⟩ | ⟨y,u,rfl,e⟩
      · exact nomatch e
      · injection e with e1 _; rw [e1]
  byValue:=fun k v h=>by
    rcases keyIs_shape h with ⟨i,t,rfl,rfl⟩ | ⟨x,t,rfl,rfl⟩ <;> rfl
  pyHash:=fun hv h=>by
    rcases keyIs_shape hv with ⟨i,t,rfl,rfl⟩ | ⟨x,t,rfl,rfl⟩
    · exact wpAny_pyHash_int h
    · exact wpAny_pyHash_str h
  eqBool:=fun hu hv h=>by
    rcases keyIs_shape hu with ⟨i,t,rfl,rfl⟩ | ⟨x,t,rfl,rfl⟩
    · rcases keyIs_shape hv with ⟨j,u,rfl,rfl⟩ | ⟨y,u,rfl,rfl⟩
      · rw [key_ll] at h; exact wpAny_eqBool_int h
      · rw [key_lr] at h; exact SeqAt.EqAt.int_str i t y u _ _ _ _ h
    · rcases keyIs_shape hv with ⟨j,u,rfl,rfl⟩ | ⟨y,u,rfl,rfl⟩
      · rw [key_rl] at h; exact SeqAt.EqAt.str_int x t j u _ _ _ _ h
      · rw [key_rr] at h; exact wpAny_eqBool_str h
  «strs»:=fun k x t v h=>by
    rcases keyIs_shape h with ⟨i,u,rfl,e⟩ | ⟨y,u,rfl,e⟩
    · exact nomatch e
    · injection e with e1 _
      subst e1
      cases v <;> rfl
theorem mixKind_int (prog:Program) (w:World) (i:Int) (t:Tok):(mixKind prog w).is (.inl i) (.int i t)=true:=keyIs_int i t
theorem mixKind_str (prog:Program) (w:World) (x:Str) (t:Tok):(mixKind prog w).is (.inr x) (.str x t)=true:=keyIs_str x t
end L2
namespace L2
open PySem PySem.Spec PyProof.Rows
inductive V where
  | non | bl (b:Bool) | int (i:Int) | str (x:Str) | byt (b:Array UInt8) | flt (b:UInt64) | ref (a:Addr) | ty (n:String)
  deriving DecidableEq
def RelV:V->Value->Prop
  | .non,u=>u=Value.none
  | .bl b,u=>u=Value.bool b
  | .int i,u=>∃ t,u=Value.int i t
  | .str x,u=>∃ t,u=Value.str x t
  | .byt b,u=>∃ t,u=Value.bytes b t
  | .flt b,u=>∃ t,u=Value.float b t
  | .ref a,u=>u=Value.ref a
  | .ty n,u=>u=Value.type n
abbrev Vals:List V->List Value->Prop:=Paired RelV
theorem Vals.length {xs:List V} {us:List Value} (r:Vals xs us):xs.length=us.length:=Paired.length r
theorem Vals.get:∀ {xs:List V} {us:List Value} {i:Nat} {x:V},Vals xs us->xs[i]?=some x->∃ u,us[i]?=some u/\RelV x u
  | _,_,_,_,.nil,e=>by simp at e
  | _,_,0,_,.cons r _,e=>by simp at e; subst e; exact ⟨_,rfl,r⟩
  | _,_,i + 1,x,.cons _ t,e=>by
    obtain ⟨u,h1,h2⟩:=Vals.get (i:=i) (x:=x) t (by simpa using e)
    exact ⟨u,by simpa using h1,h2⟩
theorem Vals.set {x:V} {u:Value} (r:RelV x u):∀ {xs:List V} {us:List Value} (i:Nat),Vals xs us->Vals (xs.set i x) (us.set i u)
  | _,_,_,.nil=>.nil
  | _,_,0,.cons _ t=>.cons r t
  | _,_,i + 1,.cons q t=>.cons q (Vals.set r i t)
theorem Vals.append:∀ {xs ys:List V} {us ws:List Value},Vals xs us->Vals ys ws->Vals (xs ++ ys) (us ++ ws)
  | _,_,_,_,.nil,s=>s
  | _,_,_,_,.cons r t,s=>.cons r (Vals.append t s)
theorem Vals.take:∀ {xs:List V} {us:List Value} (n:Nat),Vals xs us->Vals (xs.take n) (us.take n)
  | _,_,0,_=>.nil
  | _,_,_ + 1,.nil=>.nil
  | _,_,n + 1,.cons r t=>.cons r (Vals.take n t)
theorem Vals.drop:∀ {xs:List V} {us:List Value} (n:Nat),Vals xs us->Vals (xs.drop n) (us.drop n)
  | _,_,0,r=>r
  | _,_,_ + 1,.nil=>.nil
  | _,_,n + 1,.cons _ t=>Vals.drop n t
def RelO:Option V->Option Value->Prop
  | some v,some u=>RelV v u
  | none,none=>True
  | _,_=>False
def KV {κ:Type}:List (κ × V)->List (κ × Value)->Prop:=Paired fun (p:κ × V) (q:κ × Value)=>p.1=q.1/\RelV p.2 q.2
def kV:Key->V
  | .inl i=>.int i
  | .inr x=>.str x
inductive HO where
  | lst (xs:List V)
  | tup (xs:List V)
  | dK (kvs:List (Key × V)) | dT (kvs:List (List Key × V))
  | set (S:Int->Bool) (n:Nat)
  | ins (C dx:Addr) (fs:List (Str × V))
  | own (x:Addr)
  | xd (fs:List (Str × V))
  | met (f x:Addr)
  | rng (lo hi:Int)
  | frz (o:Obj) (u:HO)
  | tbl (ps:Array Value)
  | ext (φ:Heap->Prop)
abbrev Hp:=Addr->Option HO
def upd (H:Hp) (a:Addr) (o:HO):Hp:=fun b=>if b=a then some o else H b
theorem upd_same {H:Hp} {a:Addr} {o:HO}:upd H a o a=some o:=by unfold upd; rw [if_pos rfl]
theorem Qb {H:Hp} {a b:Addr} {o:HO} (h:b ≠ a):upd H a o b=H b:=by unfold upd; rw [if_neg h]
theorem ne_of {H:Hp} {a b:Addr} {o u:HO} (h:H a=some o) (h':H b=some u) (d:o ≠ u):a ≠ b:=by
  intro e; subst e; rw [h] at h'; exact d (Option.some.inj h')
theorem Qc {H:Hp} {a b:Addr} {o:HO} (h:H a=some o) (h':H b=none):a ≠ b:=by
  intro e; subst e; rw [h] at h'; cases h'
section
variable (P:Program) (w:World)
def ObjOk (H:Hp) (h:Heap) (a:Addr):HO->Prop
  | .lst xs=>xs.length<=sizeLine/\∃ (its:List Value) (n:Nat),Vals xs its/\h.get? a=some { cls:=.type "list",data:=.seq its.toArray n }
  | .tup xs=>xs.length<=sizeLine/\∃ its:List Value,Vals xs its/\IsTup h a its.toArray
  | .dK kvs=>kvs.length<=sizeLine/\(a == sysModules)=false/\∃ vs,KV kvs vs/\h.DictOf (mixKind P w) a vs
  | .dT kvs=>kvs.length<=sizeLine/\(a == sysModules)=false/\∃ xs:List (List Key × Addr × Value),
      Paired (fun (p:List Key × V) (q:List Key × Addr × Value)=>p.1=q.1/\H q.2.1=some (.tup (p.1.map kV))/\RelV p.2 q.2.2) kvs xs /\
      ∃ o es ep,h.get? a=some o/\o.ExactDict/\o.data=.dict es ep/\es.toList=xs.map (entryOfKey (tupleKind (mixKind P w)))/\(xs.map (·.1)).Nodup
  | .set S n=>h.SetOf (intKind P w) a S n
  | .ins C dx fs=>H dx=some (.own a)/\fs.length<=1000/\dx ≠ a/\h.get? a=some (PySem.W.instObj C dx) /\
      ∃ mA,h.Ns1 dx mA/\(∀ f,RelO (fs.lookup f) (mA f))/\PySem.Within mA (fs.map (·.1))
  | .own _=>∃ o,h.get? a=some o
  | .xd fs=>∃ mA,h.Ns1 a mA/\∀ f,RelO (fs.lookup f) (mA f)
  | .rng lo hi=>∃ t u v,h.get? a=some { cls:=.type "range",data:=.fields #[.int lo t,.int hi u,.int 1 v] }
  | .frz o u=>h.get? a=some o/\ObjOk H h a u
  | .tbl ps=>h.get? a=some { cls:=.none,data:=.fields ps }
  | .met f x=>h.get? a=some (PySem.W.methodObj (.ref f) (.ref x))
  | .ext φ=>φ h/\(∃ o,h.get? a=some o)/\∀ h1 h2:Heap,φ h1->(∀ o,h1.get? a=some o->h2.get? a=some o)->φ h2
def HOk (H:Hp) (h:Heap):Prop:=∀ a o,H a=some o->ObjOk P w H h a o
end
section
variable {P:Program} {w:World} {H H':Hp} {h h':Heap} {a:Addr} {o:HO}
theorem ObjOk.lt (x:ObjOk P w H h a o):a < h.objs.size:=by
  cases o with
  | lst xs=>obtain ⟨_,_,_,_,e⟩:=x; exact Heap.lt_size e
  | tup xs=>obtain ⟨_,_,_,p⟩:=x; exact p.lt
  | dK kvs=>obtain ⟨_,_,_,_,o,_,_,e,_⟩:=x; exact Heap.lt_size e
  | dT kvs=>obtain ⟨_,_,_,_,o,_,_,e,_⟩:=x; exact Heap.lt_size e
  | set S n=>obtain ⟨o,_,_,_,e,_⟩:=x; exact Heap.lt_size e
  | ins C dx fs=>obtain ⟨_,_,_,e,_⟩:=x; exact Heap.lt_size e
  | own y=>obtain ⟨_,e⟩:=x; exact Heap.lt_size e
  | xd fs=>obtain ⟨_,⟨_,_,_,e,_⟩,_⟩:=x; exact Heap.lt_size e
  | rng lo hi=>obtain ⟨_,_,_,e⟩:=x; exact Heap.lt_size e
  | frz ob u=>obtain ⟨e,_⟩:=x; exact Heap.lt_size e
  | tbl ps=>exact Heap.lt_size (show h.get? a=some _ from x)
  | met f y=>exact Heap.lt_size (show h.get? a=some _ from x)
  | ext φ=>obtain ⟨_,⟨_,e⟩,_⟩:=x; exact Heap.lt_size e
theorem Paired.mapP {α β:Type} {F G:α->β->Prop}:∀ {l₁:List α} {l₂:List β},Paired F l₁ l₂->(∀ a b,F a b->G a b)->Paired G l₁ l₂
  | _,_,.nil,_=>.nil
  | _,_,.cons r t,f=>.cons (f _ _ r) (Paired.mapP t f)
theorem ObjOk.stay (x:ObjOk P w H h a o) (k:∀ b u,(b=a\/H b=some (.own a))->h.get? b=some u->h'.get? b=some u)
    (ho:∀ b,H b=some (.own a)->H' b=some (.own a)) (ht:∀ b xs,H b=some (.tup xs)->H' b=some (.tup xs)):ObjOk P w H' h' a o:=by
  induction o with
  | lst xs=>obtain ⟨z,its,n,r,e⟩:=x; exact ⟨z,its,n,r,k _ _ (.inl rfl) e⟩
  | tup xs=>obtain ⟨z,its,r,ob,e,c⟩:=x; exact ⟨z,its,r,ob,k _ _ (.inl rfl) e,c⟩
  | dK kvs=>obtain ⟨z,y,vs,r,ob,es,ep,e,c⟩:=x; exact ⟨z,y,vs,r,ob,es,ep,k _ _ (.inl rfl) e,c⟩
  | dT kvs=>
    obtain ⟨z,y,xs,r,ob,es,ep,e,c⟩:=x
    exact ⟨z,y,xs,Paired.mapP r fun p q z=>⟨z.1,ht _ _ z.2.1,z.2.2⟩,ob,es,ep,k _ _ (.inl rfl) e,c⟩
  | set S n=>obtain ⟨ob,es,ep,t,e,c⟩:=x; exact ⟨ob,es,ep,t,k _ _ (.inl rfl) e,c⟩
  | ins C dx fs=>
    obtain ⟨d,z,ne,e,mA,⟨od,es,ep,e2,c⟩,r⟩:=x
    exact ⟨ho _ d,z,ne,k _ _ (.inl rfl) e,mA,⟨od,es,ep,k _ _ (.inr d) e2,c⟩,r⟩
  | own y=>obtain ⟨ob,e⟩:=x; exact ⟨ob,k _ _ (.inl rfl) e⟩
  | xd fs=>obtain ⟨mA,⟨od,es,ep,e,c⟩,r⟩:=x; exact ⟨mA,⟨od,es,ep,k _ _ (.inl rfl) e,c⟩,r⟩
  | rng lo hi=>obtain ⟨t,u,v,e⟩:=x; exact ⟨t,u,v,k _ _ (.inl rfl) e⟩
  | frz ob u ih=>obtain ⟨e,q⟩:=x; exact ⟨k _ _ (.inl rfl) e,ih q⟩
  | tbl ps=>
    have e:h.get? a=some { cls:=.none,data:=.fields ps }:=x
    show h'.get? a=some { cls:=.none,data:=.fields ps }
    exact k a _ (.inl rfl) e
  | met f y=>
    have e:h.get? a=some (PySem.W.methodObj (.ref f) (.ref y)):=x
    show h'.get? a=some (PySem.W.methodObj (.ref f) (.ref y))
    exact k a _ (.inl rfl) e
  | ext φ=>obtain ⟨p,⟨o,e⟩,st⟩:=x; exact ⟨st _ _ p fun o q=>k _ _ (.inl rfl) q,⟨o,k _ _ (.inl rfl) e⟩,st⟩
theorem HOk.lt (x:HOk P w H h) (e:H a=some o):a < h.objs.size:=(x a o e).lt
theorem HOk.fresh (x:HOk P w H h) (e:h.objs.size<=a):H a=none:=by
  cases q:H a with
  | none=>rfl
  | some u=>exact absurd (Nat.lt_of_lt_of_le (x.lt q) e) (Nat.lt_irrefl _)
theorem HOk.kept (x:HOk P w H h) (k:∀ b u,h.get? b=some u->h'.get? b=some u):HOk P w H h':=fun a o e=>
  (x a o e).stay (fun b u _ q=>k b u q) (fun _ q=>q) fun _ _ q=>q
theorem HOk.laid (x:HOk P w H h) (k:∀ b u,h.get? b=some u->h'.get? b=some u) (hp:h.objs.size<=a) (new:ObjOk P w (upd H a o) h' a o):HOk P w (upd H a o) h':=fun b u e=>by
  have hn:=x.fresh hp
  by_cases hb:b=a
  · subst hb; rw [upd_same] at e; cases e; exact new
  · rw [Qb hb] at e
    exact (x b u e).stay (fun c v _ q=>k c v q) (fun c q=>by rw [Qb (Qc q hn)]; exact q) fun c xs q=>by rw [Qb (Qc q hn)]; exact q
end
def Rd (H:Hp) (a:Addr) (u:HO):Prop:=H a=some u\/∃ o,H a=some (.frz o u)
theorem Rd.ok {P:Program} {w:World} {H:Hp} {h:Heap} {a:Addr} {u:HO} (r:Rd H a u) (x:HOk P w H h):ObjOk P w H h a u:=by
  rcases r with r | ⟨o,r⟩
  · exact x a u r
  · obtain ⟨_,q⟩:=x a _ r
    exact q
def Mut:Option HO->Prop
  | some (.lst _)=>True
  | some (.dK _)=>True
  | some (.dT _)=>True
  | some (.set _ _)=>True
  | some (.ins _ _ _)=>True
  | some (.ext _)=>True
  | _=>False
section
variable {P:Program} {w:World} {H:Hp} {h h':Heap} {x e:Addr} {o':HO}
theorem HOk.write (ok:HOk P w H h) (mu:Mut (H x)) (he:e=x\/H e=some (.own x)) (k:∀ b u,b ≠ e->h.get? b=some u->h'.get? b=some u) (heo:∃ u,h'.get? e=some u)
    (new:ObjOk P w (upd H x o') h' x o'):HOk P w (upd H x o') h':=fun b u q=>by
  have nown:∀ c y,H c=some (.own y)->c ≠ x:=fun c y r z=>by subst z; rw [r] at mu; exact mu
  have ntup:∀ c xs,H c=some (.tup xs)->c ≠ x:=fun c xs r z=>by subst z; rw [r] at mu; exact mu
  by_cases hb:b=x
  · subst hb; rw [upd_same] at q; cases q; exact new
  · rw [Qb hb] at q
    by_cases hbe:b=e
    · have q':H b=some (.own x):=by
        rcases he with z | z
        · exact absurd (hbe.trans z) hb
        · rw [hbe]; exact z
      rw [q] at q'; cases q'
      obtain ⟨v,hv⟩:=heo
      exact ⟨v,by rw [hbe]; exact hv⟩
    · refine (ok b u q).stay (fun c v hc r=>k c v ?_ r) (fun c r=>by rw [Qb (nown c b r)]; exact r) fun c xs r=>by rw [Qb (ntup c xs r)]; exact r
      rcases hc with rfl | hc
      · exact hbe
      · rintro rfl
        rcases he with z | z
        · exact nown c b hc z
        · rw [hc] at z; cases z; exact hb rfl
end
structure Un (fs ex:List Addr) (H H':Hp) (h h':Heap):Prop where
  keep:∀ b o,h.get? b=some o->H b=none->b ∉ fs->b ∉ ex->h'.get? b=some o
  slot:∀ b o,h.get? b=some o->H b=none->b ∈ fs->b ∉ ex->∃ sl,h'.get? b=some { o with slots:=sl }
  free:∀ b o,h.get? b=some o->H b=none->b ∉ ex->H' b=none
  there:∀ b o,h.get? b=some o->b ∉ ex->∃ o',h'.get? b=some o'
  tups:∀ b xs,H b=some (.tup xs)->H' b=some (.tup xs)
  frzs:∀ b o u,H b=some (.frz o u)->H' b=some (.frz o u)
  tbls:∀ b ps,H b=some (.tbl ps)->∃ more,H' b=some (.tbl (ps ++ more))
section
variable {fs fs' ex ex':List Addr} {H H1 H2:Hp} {h h1 h2 h':Heap} {a x e:Addr} {o:HO}
theorem Un.any (u:Un fs ex H H1 h h1) {b:Addr} {ob:Obj} (q:h.get? b=some ob) (n:H b=none) (hx:b ∉ ex):∃ sl,h1.get? b=some { ob with slots:=sl }:=by
  by_cases hb:b ∈ fs
  · exact u.slot b ob q n hb hx
  · exact ⟨ob.slots,u.keep b ob q n hb hx⟩
theorem Un.kept (k:∀ b u,h.get? b=some u->h'.get? b=some u):Un fs ex H H h h':=
  ⟨fun b ob q _ _ _=>k b ob q,fun b ob q _ _ _=>⟨ob.slots,k b ob q⟩,fun _ _ _ n _=>n,fun b ob q _=>⟨ob,k b ob q⟩,fun _ _ q=>q,fun _ _ _ q=>q,fun _ ps q=>⟨#[],by rw [q]; simp⟩⟩
theorem Un.refl:Un fs ex H H h h:=Un.kept fun _ _ q=>q
theorem Un.laid (k:∀ b u,h.get? b=some u->h'.get? b=some u) (hp:h.objs.size<=a) (hn:H a=none):Un fs ex H (upd H a o) h h' where
  keep:=fun b u q _ _ _=>k b u q
  slot:=fun b u q _ _ _=>⟨u.slots,k b u q⟩
  free:=fun b u q n _=>by rw [Qb (Nat.ne_of_lt (Nat.lt_of_lt_of_le (Heap.lt_size q) hp))]; exact n
  there:=fun b u q _=>⟨u,k b u q⟩
  tups:=fun b xs q=>by rw [Qb (Qc q hn)]; exact q
  frzs:=fun b u xs q=>by rw [Qb (Qc q hn)]; exact q
  tbls:=fun b ps q=>⟨#[],by rw [Qb (Qc q hn),q]; simp⟩
theorem Un.write (mu:Mut (H x)) (he:e=x\/H e=some (.own x)) (k:∀ b u,b ≠ e->h.get? b=some u->h'.get? b=some u) (heo:∃ u,h'.get? e=some u):Un fs ex H (upd H x o) h h':=by
  have hx:∀ b,H b=none->b ≠ x:=fun b n z=>by subst z; rw [n] at mu; exact mu
  have hb:∀ b,H b=none->b ≠ e:=fun b n z=>by
    subst z
    rcases he with r | r
    · exact hx b n r
    · rw [n] at r; cases r
  have hm:∀ b u,H b=some u->¬ Mut (some u)->b ≠ x:=fun b u q nm z=>by subst z; rw [q] at mu; exact nm mu
  refine ⟨fun b u q n _ _=>k b u (hb b n) q,fun b u q n _ _=>⟨u.slots,k b u (hb b n) q⟩,fun b u q n _=>by rw [Qb (hx b n)]; exact n,fun b u q _=>?_,
    fun b xs q=>by rw [Qb (hm b _ q fun z=>z)]; exact q,fun b u xs q=>by rw [Qb (hm b _ q fun z=>z)]; exact q,fun b ps q=>⟨#[],by rw [Qb (hm b _ q fun z=>z),q]; simp⟩⟩
  by_cases hbe:b=e
  · subst hbe; exact heo
  · exact ⟨u,k b u hbe q⟩
end
def trk (h:Heap) (H:Hp):List Addr:=(List.range h.objs.size).filter fun a=>(H a).isSome
def hidT (h:Heap) (H:Hp):Heap:=PySem.W.hideAll h (trk h H)
theorem hidT_size (h:Heap) (H:Hp):(hidT h H).objs.size=h.objs.size:=PySem.W.hideAll_size _ _
theorem hidT_get {h:Heap} {H:Hp} {b:Addr} {o:Obj} (e:h.get? b=some o) (n:H b=none):(hidT h H).get? b=some o:=
  PySem.W.hideAll_get _ e fun hm=>by
    have q:(H b).isSome=true:=(List.mem_filter.mp hm).2
    rw [n] at q; simp at q
theorem of_hidT {h:Heap} {H:Hp} {b:Addr} {o:Obj} (e:(hidT h H).get? b=some o):h.get? b=some o/\H b=none:=by
  have e':h.get? b=some o:=PySem.W.of_hideAll (trk h H) e
  refine ⟨e',?_⟩
  cases q:H b with
  | none=>rfl
  | some x=>
    have hm:b ∈ trk h H:=List.mem_filter.mpr ⟨List.mem_range.mpr (Heap.lt_size e'),by simp [q]⟩
    have z:(hidT h H).get? b=none:=PySem.W.hideAll_none (trk h H) hm
    rw [z] at e; cases e
def allNews (g h:Heap) (L:Addr):List (Addr × Obj):=(List.range h.objs.size).filterMap fun a=>if a=L\/(g.get? a).isSome=true then none else (h.get? a).map fun o=>(a,o)
def rest (g h:Heap) (L d:Addr):List (Addr × Obj):=(allNews g h L).filter fun p=>decide (p.1 ≠ d)
end L2
namespace L2
open PySem PySem.Spec PyProof.Rows
structure Mod (K:PySem.W.Frag) (mg:Str->Option Value) (base:Heap):Prop where
  kin:K.In base
  glob:base.Ns mainGlobals mg
  blt:∃ mb,base.Ns builtinsNs mb/\∀ x:Str,x ≠ "__name__" -> mb x=bootBuiltins x
  nolimit:base.NoLimit
structure Cx where
  prog:Program
  w:World
  K:PySem.W.Frag
  mg:Str->Option Value
  base:Heap
  A:Around
  N:List Str
  s₀:Shared
  H₀:Hp
  env:Env
  outer:List Env
  stack:List Env
  ex:List Addr
  fn:Str->Bool
  calm:Bool
  pn:List (Addr × Obj)
  xe:Value->Shared->Prop
def frs (l:List Env):List Addr:=l.filterMap (·.frame)
abbrev Cx.fs (X:Cx):List Addr:=frs X.outer
def Vis (sc:Scope) (x:Str):Prop:=sc.names.lookup x=some .local\/sc.names.lookup x=some .cell\/sc.names.lookup x=some .free
def Loc (sc:Scope) (x:Str):Prop:=sc.names.lookup x=some .local\/sc.names.lookup x=some .cell
def Look (env:Env) (h:Heap) (m:Str->Option Value) (x:Str) (u:Value):Prop:=
  (env.kindOf x=some .local/\m x=some u)\/((env.kindOf x=some .cell\/env.kindOf x=some .free)/\∃ c,env.cells.lookup x=some c/\h.IsCell c (some u))
structure Cx.Ok (X:Cx):Prop where
  mod:Mod X.K X.mg X.base
  kind:X.env.scope.kind=.function
  glob:X.env.globals=mainGlobals
  blt:X.env.builtins=builtinsNs
  above:X.s₀.heap.objs.size<=X.env.locals
  inj:∀ x y c,X.env.cells.lookup x=some c->X.env.cells.lookup y=some c->x=y
  has:∀ x,(X.env.kindOf x=some .cell\/X.env.kindOf x=some .free)->∃ c,X.env.cells.lookup x=some c
  cab:∀ x c,X.fn x=true->X.env.cells.lookup x=some c->X.s₀.heap.objs.size<=c
  hd:X.calm=true->X.A.handled=none
  frames:X.A.frames=some X.stack
  stk:X.stack=X.outer\/(X.stack=X.env :: X.outer/\X.env.frame=some X.env.locals)
  exf:∀ b ∈ X.ex,b ≠ X.env.locals/\∀ x c,X.env.cells.lookup x=some c->c ≠ b
  bs:∀ b o,X.base.get? b=some o->X.s₀.heap.get? b=some o/\X.H₀ b=none
  bsz:X.base.objs.size<=X.s₀.heap.objs.size
  noex:∀ b o,X.base.get? b=some o->b ∉ X.ex
  exfs:∀ b ∈ X.ex,b ∉ X.fs
  funs:X.s₀.heap.FunFrames X.base X.outer
  frf:∀ b ∈ X.fs,X.H₀ b=none
structure Inv (X:Cx) (pins:List (Addr × Obj)) (σ:List (Option V)) (H:Hp) (s:Shared):Prop where
  ok:X.Ok
  os:s.os=X.s₀.os
  bare:AllBare s.gens
  base:Un X.fs X.ex X.H₀ H X.s₀.heap s.heap
  loc:∃ m,s.heap.Ns X.env.locals m/\∀ (i:Nat) (x:Str) (v:V),X.N[i]?=some x->σ[i]?=some (some v)->Vis X.env.scope x->∃ u,RelV v u/\Look X.env s.heap m x u
  cell:∀ x c,X.env.cells.lookup x=some c->∃ v,s.heap.IsCell c v
  free:H X.env.locals=none
  freeC:∀ x c,X.env.cells.lookup x=some c->H c=none
  pin:∀ p ∈ X.pn ++ pins,s.heap.get? p.1=some p.2/\H p.1=none/\p.1 ≠ X.env.locals/\p.1 ∉ X.fs/\∀ v,p.2.data ≠ .cell v
  hok:HOk X.prog X.w H s.heap
  len:σ.length=X.N.length
section
variable {X:Cx} {pins:List (Addr × Obj)} {σ:List (Option V)} {H H':Hp} {s:Shared} {h':Heap}
theorem Cx.Ok.nofr (ok:X.Ok) {b:Addr} {o:Obj} (e:X.base.get? b=some o):b ∉ X.fs:=fun hb=>by
  have:=(ok.funs.mem hb).1
  rw [e] at this; cases this
theorem Inv.bs (I:Inv X pins σ H s):∀ b o,X.base.get? b=some o->s.heap.get? b=some o/\H b=none:=fun b o e=>
  ⟨I.base.keep b o (I.ok.bs b o e).1 (I.ok.bs b o e).2 (I.ok.nofr e) (I.ok.noex b o e),I.base.free b o (I.ok.bs b o e).1 (I.ok.bs b o e).2 (I.ok.noex b o e)⟩
theorem Inv.bk (I:Inv X pins σ H s):∀ b o,X.base.get? b=some o->s.heap.get? b=some o:=fun b o e=>(I.bs b o e).1
theorem Inv.mod (I:Inv X pins σ H s):Mod X.K X.mg X.base:=I.ok.mod
theorem Inv.kIn (I:Inv X pins σ H s):X.K.In s.heap:=I.ok.mod.kin.keeps I.bk
theorem Inv.lt (I:Inv X pins σ H s):X.env.locals < s.heap.objs.size:=let ⟨_,hn,_⟩:=I.loc; hn.lt
theorem Inv.sz (I:Inv X pins σ H s):X.s₀.heap.objs.size<=s.heap.objs.size:=Nat.le_trans I.ok.above (Nat.le_of_lt I.lt)
theorem Inv.nofs (I:Inv X pins σ H s) {a:Addr} (h:s.heap.objs.size<=a):a ∉ X.fs:=fun hb=>by
  obtain ⟨_,o,ho,_⟩:=I.ok.funs.mem hb
  exact absurd (Nat.lt_of_lt_of_le (Heap.lt_size ho) (Nat.le_trans I.sz h)) (Nat.lt_irrefl _)
theorem Inv.cne (I:Inv X pins σ H s):∀ x c,X.env.cells.lookup x=some c->c ≠ X.env.locals:=fun x c e z=>by
  obtain ⟨v,o,ho,hd⟩:=I.cell x c e
  obtain ⟨m,⟨o',es,ep,ho',hd',_⟩,_⟩:=I.loc
  rw [z,ho'] at ho; cases ho; rw [hd'] at hd; cases hd
theorem Inv.funs (I:Inv X pins σ H s):s.heap.FunFrames X.base X.outer:=by
  have all:∀ (l:List Env),(∀ b ∈ frs l,b ∈ X.fs)->X.s₀.heap.FunFrames X.base l->s.heap.FunFrames X.base l:=by
    intro l
    induction l with
    | nil=>intro _ _; trivial
    | cons env r ih=>
      intro hs hl
      obtain ⟨hk,⟨L,o,hf,hn,ho,hd⟩,hr⟩:=hl
      have hL:L ∈ X.fs:=hs L (by unfold frs; rw [List.filterMap_cons,hf]; exact List.mem_cons_self)
      obtain ⟨sl,e⟩:=I.base.slot L o ho (I.ok.frf L hL) hL fun z=>I.ok.exfs L z hL
      exact ⟨hk,⟨L,_,hf,hn,e,hd⟩,ih (fun b hb=>hs b (by unfold frs; rw [List.filterMap_cons,hf]; exact List.mem_cons_of_mem _ hb)) hr⟩
  exact all X.outer (fun _ hb=>hb) I.ok.funs
theorem Inv.stack (I:Inv X pins σ H s):s.heap.FunFrames X.base X.stack:=by
  rcases I.ok.stk with e | ⟨e,hf⟩
  · rw [e]; exact I.funs
  · rw [e]
    obtain ⟨m,hn,_⟩:=I.loc
    refine .cons (by rw [I.ok.kind]; decide) hf hn ?_ I.funs
    exact Heap.get?_none_of_le (Nat.le_trans I.ok.bsz I.ok.above)
theorem Inv.stkSub (I:Inv X pins σ H s):∀ b ∈ frs X.stack,b ∈ X.env.locals :: X.fs:=fun b hb=>by
  rcases I.ok.stk with e | ⟨e,hf⟩
  · rw [e] at hb; exact List.mem_cons_of_mem _ hb
  · rw [e] at hb
    unfold frs at hb
    rw [List.filterMap_cons,hf] at hb
    exact hb
theorem Inv.stkFree (I:Inv X pins σ H s):∀ b ∈ frs X.stack,H b=none:=fun b hb=>by
  rcases List.mem_cons.mp (I.stkSub b hb) with e | hb
  · rw [e]; exact I.free
  · obtain ⟨_,o,ho,_⟩:=I.ok.funs.mem hb
    exact I.base.free b o ho (I.ok.frf b hb) fun z=>I.ok.exfs b z hb
theorem Inv.step {g':Array GenState} {t':Nat} {d':Drawn} {ch:List Addr} (I:Inv X pins σ H s)
    (hch:∀ b ∈ ch,(b ∈ X.ex\/X.s₀.heap.objs.size<=b)/\b ≠ X.env.locals/\(∀ x c,X.env.cells.lookup x=some c->c ≠ b)/\∀ p ∈ X.pn ++ pins,p.1 ≠ b)
    (keep:∀ b o,b ≠ X.env.locals->b ∉ X.fs->b ∉ ch->s.heap.get? b=some o->H b=none->h'.get? b=some o)
    (slot:∀ b o,b ≠ X.env.locals->b ∈ X.fs->b ∉ ch->s.heap.get? b=some o->H b=none->∃ sl,h'.get? b=some { o with slots:=sl }) (free:∀ b o,b ∉ ch->s.heap.get? b=some o->H b=none->H' b=none)
    (there:∀ b o,b ∉ ch->s.heap.get? b=some o->∃ o',h'.get? b=some o')
    (tups:∀ b xs,H b=some (.tup xs)->H' b=some (.tup xs)) (frzs:∀ b o u,H b=some (.frz o u)->H' b=some (.frz o u)) (tbls:∀ b ps,H b=some (.tbl ps)->∃ more,H' b=some (.tbl (ps ++ more)))
    (ns:∀ m,s.heap.Ns X.env.locals m->h'.Ns X.env.locals m) (hok:HOk X.prog X.w H' h') (hg:AllBare g') :
    Inv X pins σ H' { s with heap:=h',gens:=g',drawn:=d',toks:=t' }:=by
  have neL:∀ b o,X.s₀.heap.get? b=some o->b ≠ X.env.locals:=fun b o e=>Nat.ne_of_lt (Nat.lt_of_lt_of_le (Heap.lt_size e) I.ok.above)
  have neC:∀ b o,X.s₀.heap.get? b=some o->b ∉ X.ex->b ∉ ch:=fun b o e hx hb=>by
    rcases (hch b hb).1 with z | z
    · exact hx z
    · exact absurd (Nat.lt_of_lt_of_le (Heap.lt_size e) z) (Nat.lt_irrefl _)
  have cellK:∀ x c,X.env.cells.lookup x=some c->∀ v,s.heap.IsCell c v->h'.IsCell c v:=fun x c e v ⟨o,ho,hd⟩=>by
    have nch:c ∉ ch:=fun z=>(hch c z).2.2.1 x c e rfl
    by_cases hc:c ∈ X.fs
    · obtain ⟨sl,q⟩:=slot c o (I.cne x c e) hc nch ho (I.freeC x c e)
      exact ⟨_,q,hd⟩
    · exact ⟨o,keep c o (I.cne x c e) hc nch ho (I.freeC x c e),hd⟩
  refine ⟨I.ok,I.os,hg,⟨fun b o e n hb hx=>?_,fun b o e n hb hx=>?_,fun b o e n hx=>?_,fun b o e hx=>?_,fun b xs e=>tups b xs (I.base.tups b xs e),fun b o xs e=>frzs b o xs (I.base.frzs b o xs e),fun b ps e=>?_⟩,?_,fun x c e=>?_,?_,fun x c e=>?_,fun p hp=>?_,hok,I.len⟩
  · exact keep b o (neL b o e) hb (neC b o e hx) (I.base.keep b o e n hb hx) (I.base.free b o e n hx)
  · obtain ⟨sl,e1⟩:=I.base.slot b o e n hb hx
    obtain ⟨sl',e2⟩:=slot b _ (neL b o e) hb (neC b o e hx) e1 (I.base.free b o e n hx)
    exact ⟨sl',e2⟩
  · obtain ⟨o',e1⟩:=I.base.there b o e hx
    exact free b o' (neC b o e hx) e1 (I.base.free b o e n hx)
  · obtain ⟨o',e1⟩:=I.base.there b o e hx
    exact there b o' (neC b o e hx) e1
  · obtain ⟨m1,e1⟩:=I.base.tbls b ps e
    obtain ⟨m2,e2⟩:=tbls b _ e1
    exact ⟨m1 ++ m2,by rw [e2,Array.append_assoc]⟩
  · obtain ⟨m,hn,hl⟩:=I.loc
    refine ⟨m,ns m hn,fun i x v e1 e2 e3=>?_⟩
    obtain ⟨u,r,l⟩:=hl i x v e1 e2 e3
    refine ⟨u,r,?_⟩
    rcases l with l | ⟨k,c,e,z⟩
    · exact .inl l
    · exact .inr ⟨k,c,e,cellK x c e _ z⟩
  · obtain ⟨v,z⟩:=I.cell x c e
    exact ⟨v,cellK x c e v z⟩
  · obtain ⟨m,⟨o,_,_,ho,_⟩,_⟩:=I.loc
    exact free _ o (fun z=>(hch _ z).2.1 rfl) ho I.free
  · obtain ⟨v,o,ho,hd⟩:=I.cell x c e
    exact free c o (fun z=>(hch c z).2.2.1 x c e rfl) ho (I.freeC x c e)
  · obtain ⟨e,n,ne,nf,d⟩:=I.pin p hp
    have nch:p.1 ∉ ch:=fun z=>(hch p.1 z).2.2.2 p hp rfl
    exact ⟨keep p.1 p.2 ne nf nch e n,free p.1 p.2 nch e n,ne,nf,d⟩
theorem Inv.un {t':Nat} (I:Inv X pins σ H s) (u:Un X.fs [] H H' s.heap h') (hok:HOk X.prog X.w H' h'):Inv X pins σ H' { s with heap:=h',toks:=t' }:=by
  obtain ⟨m,⟨o,es,ep,ho,r⟩,_⟩:=id I.loc
  obtain ⟨sl,hL⟩:=u.any ho I.free (by simp)
  exact I.step (g':=s.gens) (d':=s.drawn) (ch:=[]) (fun _ z=>nomatch z) (fun b o _ hb _ e n=>u.keep b o e n hb (by simp)) (fun b o _ hb _ e n=>u.slot b o e n hb (by simp)) (fun b o _ e n=>u.free b o e n (by simp)) (fun b o _ e=>u.there b o e (by simp)) u.tups u.frzs u.tbls (fun m' hm=>by
    obtain ⟨o',es',ep',ho',r'⟩:=hm
    rw [ho] at ho'; cases ho'
    exact ⟨_,es',ep',hL,r'⟩) hok I.bare
theorem Inv.call {g':Array GenState} {t':Nat} {d':Drawn} {ch:List Addr} (I:Inv X pins σ H s) (u:Un (frs X.stack) ch H H' s.heap h') (hok:HOk X.prog X.w H' h') (hg:AllBare g')
    (hch:∀ b ∈ ch,(b ∈ X.ex\/X.s₀.heap.objs.size<=b)/\b ≠ X.env.locals/\(∀ x c,X.env.cells.lookup x=some c->c ≠ b)/\∀ p ∈ X.pn ++ pins,p.1 ≠ b) :
    Inv X pins σ H' { s with heap:=h',gens:=g',drawn:=d',toks:=t' }:=by
  obtain ⟨m,⟨o,es,ep,ho,r⟩,_⟩:=id I.loc
  obtain ⟨sl,hL⟩:=u.any ho I.free fun z=>(hch _ z).2.1 rfl
  exact I.step (ch:=ch) hch (fun b o hL hb hc e n=>u.keep b o e n (fun z=>(List.mem_cons.mp (I.stkSub b z)).elim hL hb) hc) (fun b o _ _ hc e n=>u.any e n hc) (fun b o hc e n=>u.free b o e n hc) (fun b o hc e=>u.there b o e hc) u.tups u.frzs u.tbls (fun m' hm=>by
    obtain ⟨o',es',ep',ho',r'⟩:=hm
    rw [ho] at ho'; cases ho'
    exact ⟨_,es',ep',hL,r'⟩) hok hg
theorem Inv.turned {t':Nat} {it:Addr} (I:Inv X pins σ H s) (k:∀ b o,b ≠ it->s.heap.get? b=some o->h'.get? b=some o) (hn:H it=none) (hL:it ≠ X.env.locals)
    (h1:it ∈ X.ex\/X.s₀.heap.objs.size<=it) (h2:∀ x c,X.env.cells.lookup x=some c->c ≠ it) (h3:∀ p ∈ X.pn ++ pins,p.1 ≠ it):Inv X pins σ H { s with heap:=h',toks:=t' }:=by
  have nit:∀ b u,H b=some u->b ≠ it:=fun b u e z=>by rw [z,hn] at e; cases e
  refine I.step (g':=s.gens) (d':=s.drawn) (ch:=[it]) (fun b hb=>?_) (fun b o _ _ hc e _=>k b o (fun z=>hc (by simp [z])) e) (fun b o _ _ hc e _=>⟨o.slots,k b o (fun z=>hc (by simp [z])) e⟩) (fun _ _ _ _ n=>n)
    (fun b o hc e=>⟨o,k b o (fun z=>hc (by simp [z])) e⟩) (fun _ _ e=>e) (fun _ _ _ e=>e) (fun b ps e=>⟨#[],by rw [e]; simp⟩) (fun m hm=>?_) (fun b u e=>?_) I.bare
  · have e:b=it:=by simpa using hb
    subst e
    exact ⟨h1,hL,h2,h3⟩
  · obtain ⟨o,es,ep,ho,r⟩:=hm
    exact ⟨o,es,ep,k _ o (Ne.symm hL) ho,r⟩
  · refine (I.hok b u e).stay (fun c v hc q=>k c v ?_ q) (fun _ q=>q) fun _ _ q=>q
    rcases hc with z | z
    · rw [z]; exact nit b u e
    · exact nit c _ z
theorem Inv.tok (I:Inv X pins σ H s) (t:Nat):Inv X pins σ H { s with toks:=t }:=I.un (h':=s.heap) (t':=t) Un.refl I.hok
theorem Inv.kept {t':Nat} (I:Inv X pins σ H s) (k:∀ b u,s.heap.get? b=some u->h'.get? b=some u):Inv X pins σ H { s with heap:=h',toks:=t' }:=I.un (Un.kept k) (I.hok.kept k)
theorem Inv.laid {a:Addr} {o:HO} {t':Nat} (I:Inv X pins σ H s) (k:∀ b u,s.heap.get? b=some u->h'.get? b=some u) (hp:s.heap.objs.size<=a) (new:ObjOk X.prog X.w (upd H a o) h' a o) :
    Inv X pins σ (upd H a o) { s with heap:=h',toks:=t' }:=I.un (Un.laid k hp (I.hok.fresh hp)) (I.hok.laid k hp new)
theorem Inv.write {x e:Addr} {o:HO} {t':Nat} (I:Inv X pins σ H s) (mu:Mut (H x)) (he:e=x\/H e=some (.own x)) (k:∀ b u,b ≠ e->s.heap.get? b=some u->h'.get? b=some u) (heo:∃ u,h'.get? e=some u)
    (new:ObjOk X.prog X.w (upd H x o) h' x o):Inv X pins σ (upd H x o) { s with heap:=h',toks:=t' }:=I.un (Un.write mu he k heo) (I.hok.write mu he k heo new)
theorem Inv.pins_of {pins':List (Addr × Obj)} (I:Inv X pins σ H s) (h:∀ p ∈ pins',s.heap.get? p.1=some p.2/\H p.1=none/\p.1 ≠ X.env.locals/\p.1 ∉ X.fs/\∀ v,p.2.data ≠ .cell v):Inv X pins' σ H s:=
  ⟨I.ok,I.os,I.bare,I.base,I.loc,I.cell,I.free,I.freeC,fun p hp=>(List.mem_append.mp hp).elim (fun z=>I.pin p (List.mem_append_left _ z)) (h p),I.hok,I.len⟩
theorem nodup_ix {N:List Str} (hN:N.Nodup) {i j:Nat} {x:Str} (a:N[i]?=some x) (b:N[j]?=some x):i=j:=by
  obtain ⟨h1,e1⟩:=List.getElem?_eq_some_iff.mp a
  obtain ⟨h2,e2⟩:=List.getElem?_eq_some_iff.mp b
  exact (List.getElem_inj hN).mp (e1.trans e2.symm)
theorem store_ok2 {M:Model} {A:Around} {E:Value->Shared->Prop} {i:Nat} {x:Str} {v:V} {u:Value} {Q:Unit->Shared->Prop} (I:Inv X pins σ H s) (hN:X.N.Nodup) (hi:X.N[i]?=some x) (hx:Loc X.env.scope x) (r:RelV v u)
    (h:∀ s',Inv X pins (σ.set i (some v)) H s'->(∃ a,Heap.SameBut a s.heap s'.heap/\(a=X.env.locals\/X.env.cells.lookup x=some a))->Q () s') (hf:X.fn x=true\/X.env.scope.names.lookup x=some .local:=by first | exact .inl rfl | exact .inr rfl | assumption):wpAny M A (storeName X.env x u) Q E s:=by
  obtain ⟨m,hn,hl⟩:=id I.loc
  have hcls:(X.env.scope.kind == .class || (X.env.scope.kind == .module && X.env.locals != X.env.globals))=false:=by rw [I.ok.kind]; rfl
  have hiσ:i < σ.length:=by rw [I.len]; exact (List.getElem?_eq_some_iff.mp hi).1
  have cne:=I.cne
  have tracked:∀ {a:Addr} {h':Heap},(∃ o,s.heap.get? a=some o/\H a=none)->Heap.SameBut a s.heap h'->HOk X.prog X.w H h':=fun {a h'} ha hs b ob e=>by
    obtain ⟨_,_,hfree⟩:=ha
    refine (I.hok b ob e).stay (fun c w' hc q=>(hs.2 c ?_).trans q) (fun _ q=>q) fun _ _ q=>q
    rintro rfl
    rcases hc with rfl | hc
    · rw [hfree] at e; cases e
    · rw [hfree] at hc; cases hc
  rcases hx with hk | hk
  · refine wpAny_storeName_local hk hn (fun h' hn' hs=>?_) hcls
    obtain ⟨oL,_,_,hoL,_⟩:=id hn
    refine h _ ⟨I.ok,I.os,I.bare,⟨fun b o e n hb hx=>?_,fun b o e n hb hx=>?_,I.base.free,fun b o e hx=>?_,I.base.tups,I.base.frzs,I.base.tbls⟩,⟨_,hn',fun j y v' e1 e2 e3=>?_⟩,fun y c e=>?_,I.free,I.freeC,fun p hp=>?_,tracked ⟨oL,hoL,I.free⟩ hs,by simpa using I.len⟩ ⟨_,hs,.inl rfl⟩
    · exact (hs.2 b (Nat.ne_of_lt (Nat.lt_of_lt_of_le (Heap.lt_size e) I.ok.above))).trans (I.base.keep b o e n hb hx)
    · obtain ⟨sl,e1⟩:=I.base.slot b o e n hb hx
      exact ⟨sl,(hs.2 b (Nat.ne_of_lt (Nat.lt_of_lt_of_le (Heap.lt_size e) I.ok.above))).trans e1⟩
    · obtain ⟨o',e1⟩:=I.base.there b o e hx
      exact ⟨o',(hs.2 b (Nat.ne_of_lt (Nat.lt_of_lt_of_le (Heap.lt_size e) I.ok.above))).trans e1⟩
    · by_cases hj:j=i
      · subst hj
        rw [hi] at e1; cases e1
        rw [List.getElem?_set_self hiσ] at e2
        cases e2
        exact ⟨u,r,.inl ⟨hk,by simp⟩⟩
      · rw [List.getElem?_set_ne (Ne.symm hj)] at e2
        obtain ⟨u',r',q⟩:=hl j y v' e1 e2 e3
        refine ⟨u',r',?_⟩
        rcases q with ⟨k,e⟩ | ⟨k,c,e,z⟩
        · refine .inl ⟨k,?_⟩
          have:y ≠ x:=fun e=>hj (nodup_ix hN e1 (e ▸ hi))
          simp [this,e]
        · exact .inr ⟨k,c,e,z.sameBut hs (cne y c e)⟩
    · obtain ⟨w',z⟩:=I.cell y c e
      exact ⟨w',z.sameBut hs (cne y c e)⟩
    · obtain ⟨e,n,ne,nf,d⟩:=I.pin p hp
      exact ⟨(hs.2 p.1 ne).trans e,n,ne,nf,d⟩
  · have hfn:X.fn x=true:=by
      rcases hf with z | z
      · exact z
      · rw [z] at hk; cases hk
    obtain ⟨c,hc⟩:=I.ok.has x (.inl hk)
    obtain ⟨w',z⟩:=I.cell x c hc
    refine wpAny_storeName_cell I.ok.kind hk hc z (fun h' hc' hs=>?_)
    obtain ⟨oc,hoc,hocd⟩:=id z
    refine h { s with heap:=h' } ⟨I.ok,I.os,I.bare,⟨fun b o e n hb hx=>?_,fun b o e n hb hx=>?_,I.base.free,fun b o e hx=>?_,I.base.tups,I.base.frzs,I.base.tbls⟩,⟨m,hn.sameBut hs (Ne.symm (cne x c hc)),fun j y v' e1 e2 e3=>?_⟩,fun y c' e=>?_,I.free,I.freeC,fun p hp=>?_,tracked ⟨oc,hoc,I.freeC x c hc⟩ hs,by simpa using I.len⟩ ⟨c,hs,.inr hc⟩
    · exact (hs.2 b (Nat.ne_of_lt (Nat.lt_of_lt_of_le (Heap.lt_size e) (I.ok.cab x c hfn hc)))).trans (I.base.keep b o e n hb hx)
    · obtain ⟨sl,e1⟩:=I.base.slot b o e n hb hx
      exact ⟨sl,(hs.2 b (Nat.ne_of_lt (Nat.lt_of_lt_of_le (Heap.lt_size e) (I.ok.cab x c hfn hc)))).trans e1⟩
    · obtain ⟨o',e1⟩:=I.base.there b o e hx
      exact ⟨o',(hs.2 b (Nat.ne_of_lt (Nat.lt_of_lt_of_le (Heap.lt_size e) (I.ok.cab x c hfn hc)))).trans e1⟩
    · by_cases hj:j=i
      · subst hj
        rw [hi] at e1; cases e1
        rw [List.getElem?_set_self hiσ] at e2
        cases e2
        exact ⟨u,r,.inr ⟨.inl hk,c,hc,hc'⟩⟩
      · rw [List.getElem?_set_ne (Ne.symm hj)] at e2
        obtain ⟨u',r',q⟩:=hl j y v' e1 e2 e3
        refine ⟨u',r',?_⟩
        rcases q with q | ⟨k,c',e,z'⟩
        · exact .inl q
        · refine .inr ⟨k,c',e,z'.sameBut hs ?_⟩
          rintro rfl
          exact hj (nodup_ix hN e1 (I.ok.inj _ _ _ e hc ▸ hi))
    · by_cases hcc:c'=c
      · subst hcc; exact ⟨_,hc'⟩
      · obtain ⟨w2,z2⟩:=I.cell y c' e
        exact ⟨w2,z2.sameBut hs hcc⟩
    · obtain ⟨e,n,ne,nf,d⟩:=I.pin p hp
      refine ⟨(hs.2 p.1 ?_).trans e,n,ne,nf,d⟩
      intro q
      rw [q,hoc] at e
      have q':oc=p.2:=Option.some.inj e
      exact d w' (by rw [<- q']; exact hocd)
theorem store_ok {M:Model} {A:Around} {E:Value->Shared->Prop} {i:Nat} {x:Str} {v:V} {u:Value} {Q:Unit->Shared->Prop} (I:Inv X pins σ H s) (hN:X.N.Nodup) (hi:X.N[i]?=some x) (hx:Loc X.env.scope x) (r:RelV v u)
    (h:∀ s',Inv X pins (σ.set i (some v)) H s'->Q () s') (hf:X.fn x=true\/X.env.scope.names.lookup x=some .local:=by first | exact .inl rfl | exact .inr rfl | assumption):wpAny M A (storeName X.env x u) Q E s:=
  store_ok2 I hN hi hx r (fun s' I' _=>h s' I') hf
theorem Inv.call' {s':Shared} {ch:List Addr} (I:Inv X pins σ H s) (ho:s'.os=s.os) (u:Un (frs X.stack) ch H H' s.heap s'.heap) (hok:HOk X.prog X.w H' s'.heap) (hg:AllBare s'.gens)
    (hch:∀ b ∈ ch,(b ∈ X.ex\/X.s₀.heap.objs.size<=b)/\b ≠ X.env.locals/\(∀ x c,X.env.cells.lookup x=some c->c ≠ b)/\∀ p ∈ X.pn ++ pins,p.1 ≠ b):Inv X pins σ H' s':=by
  obtain ⟨h',g',d',t',o'⟩:=s'
  have e:o'=s.os:=ho
  subst e
  exact I.call (g':=g') (t':=t') (d':=d') u hok hg hch
end
abbrev XK:=Value->Option Addr->Hp->Prop
abbrev St:=List (Option V)
abbrev VK:=V->Hp->Prop
abbrev TE:=St->Hp->VK->Prop
abbrev TT:=St->Hp->(Bool->Hp->Prop)->Prop
abbrev TA:=St->Hp->(List V->Hp->Prop)->Prop
structure Ends where
  nx:St->Hp->Prop
  rt:VK
  bk:St->Hp->Prop:=fun _ _=>False
  ct:St->Hp->Prop:=fun _ _=>False
abbrev TS:=Ends->St->Hp->Prop
def EP (X:Cx) (pins:List (Addr × Obj)) (σ:St) (Q:VK) (u:Value) (s':Shared):Prop:=∃ v H',Inv X pins σ H' s'/\RelV v u/\Q v H'
def TP (X:Cx) (pins:List (Addr × Obj)) (σ:St) (Q:Bool->Hp->Prop) (b:Bool) (s':Shared):Prop:=∃ H',Inv X pins σ H' s'/\Q b H'
def AP (X:Cx) (pins:List (Addr × Obj)) (σ:St) (Q:List V->Hp->Prop) (us:List Value) (s':Shared):Prop:=∃ vs H',Inv X pins σ H' s'/\Vals vs us/\Q vs H'
def SP (X:Cx) (pins:List (Addr × Obj)) (D:Ends) (f:Flow) (s':Shared):Prop:=
  match f with
  | .next=>∃ σ' H',Inv X pins σ' H' s'/\D.nx σ' H'
  | .brk=>∃ σ' H',Inv X pins σ' H' s'/\D.bk σ' H'
  | .cont=>∃ σ' H',Inv X pins σ' H' s'/\D.ct σ' H'
  | .ret u=>∃ v σ' H',Inv X pins σ' H' s'/\RelV v u/\D.rt v H'
def PE (X:Cx) (e:Expr) (t:TE):Prop:=
  ∀ (pins:List (Addr × Obj)) (s:Shared) (σ:St) (H:Hp) (Q:VK),Inv X pins σ H s->t σ H Q->wpAny (model X.prog X.w) X.A (eval e X.env) (EP X pins σ Q) X.xe s
def PT (X:Cx) (e:Expr) (t:TT):Prop:=
  ∀ (pins:List (Addr × Obj)) (s:Shared) (σ:St) (H:Hp) (Q:Bool->Hp->Prop),Inv X pins σ H s->t σ H Q->wpAny (model X.prog X.w) X.A (isTrue e X.env (eval e X.env)) (TP X pins σ Q) X.xe s
def PW (X:Cx) (e:Expr) (t:TT):Prop:=
  ∀ (whole:Sem Value) (pins:List (Addr × Obj)) (s:Shared) (σ:St) (H:Hp) (Q:Bool->Hp->Prop),Inv X pins σ H s->t σ H Q->wpAny (model X.prog X.w) X.A (isTrue e X.env whole) (TP X pins σ Q) X.xe s
theorem PW.pt {X:Cx} {e:Expr} {t:TT} (h:PW X e t):PT X e t:=h _
def PA (X:Cx) (es:List Expr) (t:TA):Prop:=
  ∀ (pos:Pos) (pins:List (Addr × Obj)) (s:Shared) (σ:St) (H:Hp) (Q:List V->Hp->Prop),Inv X pins σ H s->t σ H Q->wpAny (model X.prog X.w) X.A (spliced (backTo pos (starEach es X.env))) (AP X pins σ Q) X.xe s
def PS (X:Cx) (st:Stmt) (t:TS):Prop:=
  ∀ (pins:List (Addr × Obj)) (s:Shared) (σ:St) (H:Hp) (D:Ends),Inv X pins σ H s->t D σ H->wpAny (model X.prog X.w) X.A (exec st X.env) (SP X pins D) X.xe s
def PSs (X:Cx) (st:List Stmt) (t:TS):Prop:=
  ∀ (pins:List (Addr × Obj)) (s:Shared) (σ:St) (H:Hp) (D:Ends),Inv X pins σ H s->t D σ H->wpAny (model X.prog X.w) X.A (execs st X.env) (SP X pins D) X.xe s
theorem thn {α:Type} {t:Sem α} {Q Q':α->Shared->Prop} {M:Model} {A:Around} {E:Value->Shared->Prop} {s:Shared} (h:wpAny M A t Q E s) (hQ:∀ a s,Q a s->Q' a s):wpAny M A t Q' E s:=wpAny_mono h hQ fun _ _ x=>x
end L2
namespace L2
open PySem PySem.Spec PyProof.Rows
section
variable {X:Cx}
def tVar (i:Nat):TE:=fun σ H Q=>∃ v,σ[i]?=some (some v)/\Q v H
def tC (v:V):TE:=fun _ H Q=>Q v H
theorem pe_var {i:Nat} {x:Str} {pos:Pos} (hN:X.N[i]?=some x) (hv:Vis X.env.scope x) (hd:(x == ("__debug__" : Str))=false:=by decide) (hcd:(x == ("__classdict__" : Str))=false:=by decide):PE X (.Name x pos) (tVar i):=by
  intro pins s σ H Q I h
  obtain ⟨v,e,h⟩:=h
  obtain ⟨m,hn,hl⟩:=I.loc
  obtain ⟨u,r,l⟩:=hl i x v hN e hv
  have fin:EP X pins σ Q u s:=⟨v,H,I,r,h⟩
  rcases l with ⟨hk,hm⟩ | ⟨hk,c,hc,hcell⟩
  · exact wpAny_Name (wpAny_loadName_local I.ok.kind hk hn hm fin) hd
  · rcases hk with hk | hk
    · exact wpAny_Name (wpAny_loadName_cell I.ok.kind hk hc hcell fin) hd
    · exact wpAny_Name (wpAny_loadName_free I.ok.kind hk hc hcell fin hcd) hd
theorem pe_int {i j pos}:PE X (.Constant (.int i) j pos) (tC (.int i)):=fun _ _ _ H _ I h=>wpAny_Constant_int ⟨.int i,H,I.tok _,⟨_,rfl⟩,h⟩
theorem pe_bl {b j pos}:PE X (.Constant (.bool b) j pos) (tC (.bl b)):=fun _ _ _ H _ I h=>Constant_bool ⟨.bl b,H,I,rfl,h⟩
theorem pe_non {j pos}:PE X (.Constant .none j pos) (tC .non):=fun _ _ _ H _ I h=>Constant_none ⟨.non,H,I,rfl,h⟩
theorem pe_str {x j pos}:PE X (.Constant (.str x) j pos) (tC (.str x)):=fun _ _ _ H _ I h=>Calls.Constant_str ⟨.str x,H,I.tok _,⟨_,rfl⟩,h⟩
def Gl (X:Cx) (x:Str):Prop:=X.env.kindOf x=some .globalImplicit
theorem ld_glob {E:Value->Shared->Prop} {pins:List (Addr × Obj)} {s:Shared} {σ:St} {H:Hp} {x:Str} {u:Value} {pos:Pos} {Q:Value->Shared->Prop} (I:Inv X pins σ H s) (hg:Gl X x) (hm:X.mg x=some u) (h:Q u s)
    (hd:(x == ("__debug__" : Str))=false:=by decide):wpAny (model X.prog X.w) X.A (eval (.Name x pos) X.env) Q E s:=
  Calls.Name_function_global I.ok.kind hg (Calls.loadGlobal_global (by rw [I.ok.glob]; exact I.mod.glob.keeps I.bk) hm h) hd
theorem ld_blt {E:Value->Shared->Prop} {pins:List (Addr × Obj)} {s:Shared} {σ:St} {H:Hp} {x:Str} {u:Value} {pos:Pos} {Q:Value->Shared->Prop} (I:Inv X pins σ H s) (hg:Gl X x) (hm:X.mg x=none) (hv:bootBuiltins x=some u) (h:Q u s)
    (hn:x ≠ "__name__" := by decide) (hd:(x == ("__debug__" : Str))=false:=by decide):wpAny (model X.prog X.w) X.A (eval (.Name x pos) X.env) Q E s:=by
  obtain ⟨mb,h1,h2⟩:=I.mod.blt
  exact Calls.Name_function_global I.ok.kind hg (Calls.loadGlobal_builtin (by rw [I.ok.glob]; exact I.mod.glob.keeps I.bk) hm (by rw [I.ok.blt]; exact h1.keeps I.bk) ((h2 x hn).trans hv) h) hd
theorem pe_glob {x:Str} {v:V} {u:Value} {pos:Pos} (hg:Gl X x) (hm:X.mg x=some u) (r:RelV v u) (hd:(x == ("__debug__" : Str))=false:=by decide):PE X (.Name x pos) (tC v):=
  fun _ _ _ H _ I h=>ld_glob I hg hm ⟨v,H,I,r,h⟩ hd
theorem pe_bltn {x:Str} {v:V} {u:Value} {pos:Pos} (hg:Gl X x) (hm:X.mg x=none) (hv:bootBuiltins x=some u) (r:RelV v u) (hn:x ≠ "__name__" := by decide) (hd:(x == ("__debug__" : Str))=false:=by decide):PE X (.Name x pos) (tC v):=
  fun _ _ _ H _ I h=>ld_blt I hg hm hv ⟨v,H,I,r,h⟩ hn hd
variable {a b:Expr} {ta tb:TE} {pos:Pos}
def tB (t:TE):TT:=fun σ H Q=>t σ H fun x H1=>∃ c,x=.bl c/\Q c H1
theorem pt_val {e:Expr} {t:TE} (h:PE X e t) (he:∀ whole,isTrue e X.env whole=(do let v <- whole; standAt e.pos; holding [v] (truthy v)):=by intro _; rfl):PT X e (tB t):=by
  intro pins s σ H Q I hw
  refine isTrue_plain (thn (h pins s σ H _ I hw) fun v s1 ⟨x,H1,I1,r1,q1⟩=>?_) (he _)
  obtain ⟨d,rfl,q⟩:=q1
  cases r1
  exact wpAny_truthy_bool ⟨H1,I1,q⟩
variable {tA tB':TT} {rest:List Expr}
def tAnd (t u:TT):TT:=fun σ H Q=>t σ H fun c H1=>if c=true then u σ H1 Q else Q false H1
def tOr (t u:TT):TT:=fun σ H Q=>t σ H fun c H1=>if c=true then Q true H1 else u σ H1 Q
def tNot (t:TT):TT:=fun σ H Q=>t σ H fun c H1=>Q (!c) H1
theorem pw_and1 (ha:PT X a tA):PW X (.BoolOp .And [a] pos) tA:=by
  intro wh pins s σ H Q I h
  refine isTrue_and (thn (ha pins s σ H Q I h) fun c s1 e=>?_)
  cases c with
  | true=>exact isTrue_and_nil e
  | false=>exact e
theorem pw_or1 (ha:PT X a tA):PW X (.BoolOp .Or [a] pos) tA:=by
  intro wh pins s σ H Q I h
  refine isTrue_or (thn (ha pins s σ H Q I h) fun c s1 e=>?_)
  cases c with
  | false=>exact isTrue_or_nil e
  | true=>exact e
theorem pw_and (ha:PT X a tA) (hb:PW X (.BoolOp .And (b :: rest) pos) tB'):PW X (.BoolOp .And (a :: b :: rest) pos) (tAnd tA tB'):=by
  intro wh pins s σ H Q I h
  refine isTrue_and (thn (ha pins s σ H _ I h) fun c s1 ⟨H1,I1,q1⟩=>?_)
  cases c with
  | true=>exact hb wh pins s1 σ H1 Q I1 q1
  | false=>exact ⟨H1,I1,q1⟩
theorem pw_or (ha:PT X a tA) (hb:PW X (.BoolOp .Or (b :: rest) pos) tB'):PW X (.BoolOp .Or (a :: b :: rest) pos) (tOr tA tB'):=by
  intro wh pins s σ H Q I h
  refine isTrue_or (thn (ha pins s σ H _ I h) fun c s1 ⟨H1,I1,q1⟩=>?_)
  cases c with
  | true=>exact ⟨H1,I1,q1⟩
  | false=>exact hb wh pins s1 σ H1 Q I1 q1
theorem pt_not (ha:PT X a tA):PT X (.UnaryOp .Not a pos) (tNot tA):=by
  intro pins s σ H Q I h
  exact isTrue_not (ha pins s σ H (fun c H1=>Q (!c) H1) I h)
def tAndV (ta tb:TE):TE:=fun σ H Q=>ta σ H fun x H1=>∃ c,x=.bl c/\if c=true then tb σ H1 Q else Q (.bl false) H1
def tNotV (ta:TE):TE:=fun σ H Q=>ta σ H fun x H1=>∃ c,x=.bl c/\Q (.bl (!c)) H1
theorem pe_one {op} {t:TE} (h:PE X a t):PE X (.BoolOp op [a] pos) t:=fun pins s σ H Q I hw=>BoolOp_one (h pins s σ H Q I hw)
theorem pe_and (ha:PE X a ta) (hb:PE X (.BoolOp .And (b :: rest) pos) tb):PE X (.BoolOp .And (a :: b :: rest) pos) (tAndV ta tb):=by
  intro pins s σ H Q I h
  refine BoolOp_and (thn (ha pins s σ H _ I h) fun v s1 ⟨x,H1,I1,r1,q1⟩=>?_)
  obtain ⟨c,rfl,q1⟩:=q1
  cases r1
  refine wpAny_truthy_bool ?_
  cases c with
  | true=>exact hb pins s1 σ H1 Q I1 q1
  | false=>exact ⟨.bl false,H1,I1,rfl,q1⟩
theorem pe_not (ha:PE X a ta):PE X (.UnaryOp .Not a pos) (tNotV ta):=by
  intro pins s σ H Q I h
  refine UnaryOp_ (thn (ha pins s σ H _ I h) fun v s1 ⟨x,H1,I1,r1,q1⟩=>?_)
  obtain ⟨c,rfl,q1⟩:=q1
  cases r1
  exact not_of (wpAny_truthy_bool ⟨.bl (!c),H1,I1,rfl,q1⟩)
end
end L2
namespace L2
open PySem PySem.Spec PyProof.Rows
def SqL (K:PySem.W.Frag) (H:Hp) (a:Addr) (xs:List V):Prop:=
  Rd H a (.lst xs) \/
    ∃ (o:Obj) (its:Array Value) (n:Nat),K.lookup a=some o/\o.cls=.type "list" /\ o.dict=none/\o.data=.seq its n/\its.size<=sizeLine/\Vals xs its.toList
def SqT (K:PySem.W.Frag) (H:Hp) (a:Addr) (xs:List V):Prop:=
  Rd H a (.tup xs) \/
    ∃ (o:Obj) (its:Array Value) (n:Nat),K.lookup a=some o/\o.cls=.type "tuple" /\ o.data=.seq its n/\its.size<=sizeLine/\Vals xs its.toList
def absV:Value->Option V
  | .none=>some .non
  | .bool b=>some (.bl b)
  | .int i _=>some (.int i)
  | .str x _=>some (.str x)
  | .bytes b _=>some (.byt b)
  | .float b _=>some (.flt b)
  | .ref a=>some (.ref a)
  | .type n=>some (.ty n)
  | _=>none
theorem RelV.abs {x:V} {u:Value} (r:RelV x u):absV u=some x:=by
  cases x with
  | non=>cases r; rfl
  | bl _=>cases r; rfl
  | int _=>obtain ⟨t,rfl⟩:=r; rfl
  | str _=>obtain ⟨t,rfl⟩:=r; rfl
  | byt _=>obtain ⟨t,rfl⟩:=r; rfl
  | flt _=>obtain ⟨t,rfl⟩:=r; rfl
  | ref _=>cases r; rfl
  | ty _=>cases r; rfl
theorem RelV.inj {x y:V} {u:Value} (r:RelV x u) (q:RelV y u):x=y:=Option.some.inj (r.abs.symm.trans q.abs)
theorem Vals.inj:∀ {xs ys:List V} {us:List Value},Vals xs us->Vals ys us->xs=ys
  | _,_,_,.nil,.nil=>rfl
  | _,_,_,.cons r t,.cons r' t'=>by rw [r.inj r',Vals.inj t t']
section
variable {X:Cx} {pins:List (Addr × Obj)} {σ:St} {H:Hp} {s:Shared} {a:Addr} {xs ys:List V}
theorem SqL.of {K:PySem.W.Frag} (h:H a=some (.lst xs)):SqL K H a xs:=.inl (.inl h)
theorem SqT.of {K:PySem.W.Frag} (h:H a=some (.tup xs)):SqT K H a xs:=.inl (.inl h)
theorem Inv.list (I:Inv X pins σ H s) (h:SqL X.K H a xs):∃ its:List Value,Vals xs its/\PlainL s.heap a its.toArray/\xs.length<=sizeLine:=by
  rcases h with h | ⟨o,its,n,hk,hc,hd,hs,hz,r⟩
  · obtain ⟨z,its,n,r,e⟩:=h.ok I.hok
    exact ⟨its,r,⟨_,n,e,rfl,rfl,rfl⟩,z⟩
  · refine ⟨its.toList,r,⟨o,n,I.kIn a o hk,hc,hd,by simpa using hs⟩,?_⟩
    have e:=r.length
    simp only [Array.length_toList] at e
    omega
theorem Inv.tuple (I:Inv X pins σ H s) (h:SqT X.K H a xs):∃ its:List Value,Vals xs its/\IsTup s.heap a its.toArray/\xs.length<=sizeLine:=by
  rcases h with h | ⟨o,its,n,hk,hc,hs,hz,r⟩
  · obtain ⟨z,its,r,p⟩:=h.ok I.hok
    exact ⟨its,r,p,z⟩
  · refine ⟨its.toList,r,⟨o,I.kIn a o hk,hc,n,by simpa using hs⟩,?_⟩
    have e:=r.length
    simp only [Array.length_toList] at e
    omega
theorem Inv.list_inj (I:Inv X pins σ H s) (h:SqL X.K H a xs) (h':SqL X.K H a ys):xs=ys:=by
  obtain ⟨its,r,⟨o,n,e,_,_,d⟩,_⟩:=I.list h
  obtain ⟨its',r',⟨o',n',e',_,_,d'⟩,_⟩:=I.list h'
  rw [e] at e'; cases e'
  rw [d] at d'
  injection d' with d1 _
  have:its=its':=by simpa using congrArg Array.toList d1
  subst this
  exact r.inj r'
theorem Inv.tuple_inj (I:Inv X pins σ H s) (h:SqT X.K H a xs) (h':SqT X.K H a ys):xs=ys:=by
  obtain ⟨its,r,⟨o,e,_,n,d⟩,_⟩:=I.tuple h
  obtain ⟨its',r',⟨o',e',_,n',d'⟩,_⟩:=I.tuple h'
  rw [e] at e'; cases e'
  rw [d] at d'
  injection d' with d1 _
  have:its=its':=by simpa using congrArg Array.toList d1
  subst this
  exact r.inj r'
end
abbrev Cx.wish (X:Cx) (E:Value->Shared->Prop):Cx:={ X with xe:=E }
abbrev Cx.nox (X:Cx):Cx:=X.wish fun _ _=>False
theorem Cx.Ok.wish {X:Cx} (ok:X.Ok) (E:Value->Shared->Prop):(X.wish E).Ok:=
  ⟨ok.mod,ok.kind,ok.glob,ok.blt,ok.above,ok.inj,ok.has,ok.cab,ok.hd,ok.frames,ok.stk,ok.exf,ok.bs,ok.bsz,ok.noex,ok.exfs,ok.funs,ok.frf⟩
theorem Cx.Ok.unwish {X:Cx} {E:Value->Shared->Prop} (ok:(X.wish E).Ok):X.Ok:=
  ⟨ok.mod,ok.kind,ok.glob,ok.blt,ok.above,ok.inj,ok.has,ok.cab,ok.hd,ok.frames,ok.stk,ok.exf,ok.bs,ok.bsz,ok.noex,ok.exfs,ok.funs,ok.frf⟩
section
variable {X:Cx} {pins:List (Addr × Obj)} {σ:St} {H:Hp} {s:Shared} {E:Value->Shared->Prop}
theorem Inv.wish (I:Inv X pins σ H s) (E:Value->Shared->Prop):Inv (X.wish E) pins σ H s:=⟨I.ok.wish E,I.os,I.bare,I.base,I.loc,I.cell,I.free,I.freeC,I.pin,I.hok,I.len⟩
theorem Inv.unwish (I:Inv (X.wish E) pins σ H s):Inv X pins σ H s:=⟨I.ok.unwish,I.os,I.bare,I.base,I.loc,I.cell,I.free,I.freeC,I.pin,I.hok,I.len⟩
end
section
variable {X:Cx} {st:Stmt} {rest:List Stmt} {t u:TS} {e:Expr} {te:TE} {pos:Pos}
def tNext:TS:=fun D σ H=>D.nx σ H
def tSeq (t u:TS):TS:=fun D σ H=>t { D with nx:=u D } σ H
theorem pss_nil:PSs X [] tNext:=fun _ _ σ H _ I h=>wpAny_execs_nil ⟨σ,H,I,h⟩
theorem pss_cons (h1:PS X st t) (h2:PSs X rest u):PSs X (st :: rest) (tSeq t u):=by
  intro pins s σ H D I h
  refine wpAny_execs_cons (thn (h1 pins s σ H { D with nx:=u D } I h) fun f s1 q=>?_)
  cases f with
  | next=>
    obtain ⟨σ',H',I',q⟩:=q
    exact h2 pins s1 σ' H' D I' q
  | ret v=>exact q
  | brk=>exact q
  | cont=>exact q
theorem pss_one (h1:PS X st t):PSs X [st] t:=by
  intro pins s σ H D I h
  refine wpAny_execs_cons (thn (h1 pins s σ H D I h) fun f s1 q=>?_)
  cases f with
  | next=>exact wpAny_execs_nil q
  | ret v=>exact q
  | brk=>exact q
  | cont=>exact q
def tBreak:TS:=fun D σ H=>D.bk σ H
theorem ps_break:PS X (.Break pos) tBreak:=fun _ _ σ H _ I h=>wpAny_Break ⟨σ,H,I,h⟩
theorem Inv.quiet {pins:List (Addr × Obj)} {σ:St} {H:Hp} {s:Shared} (I:Inv X pins σ H s):interactive X.env=false:=by simp [interactive,I.ok.kind]
def tDrop (te:TE):TS:=fun D σ H=>te σ H fun _ H1=>D.nx σ H1
theorem ps_expr (he:PE X e te) (hs:swapsWith e none pos.line X.env=pure false:=by rfl):PS X (.Expr e pos) (tDrop te):=by
  intro pins s σ H D I h
  exact wpAny_Expr_any (thn (he pins s σ H _ I h) fun v s1 ⟨x,H1,I1,r1,q1⟩=>⟨σ,H1,I1,q1⟩) I.quiet hs
def tRet (te:TE):TS:=fun D σ H=>te σ H D.rt
theorem ps_ret (he:PE X e te):PS X (.Return (some e) pos) (tRet te):=by
  intro pins s σ H D I h
  exact wpAny_Return_some (thn (he pins s σ H _ I h) fun v s1 ⟨x,H1,I1,r1,q1⟩=>⟨x,σ,H1,I1,r1,q1⟩)
def tIfS (c:TT) (t u:TS):TS:=fun D σ H=>c σ H fun b H1=>if b=true then t D σ H1 else u D σ H1
theorem ps_if {c:Expr} {a b:List Stmt} {tc:TT} (hc:PT X c tc) (ha:PSs X a t) (hb:PSs X b u):PS X (.If c a b pos) (tIfS tc t u):=by
  intro pins s σ H D I h
  refine wpAny_If (thn (hc pins s σ H _ I h) fun d s1 ⟨H1,I1,q1⟩=>?_)
  cases d with
  | true=>exact ha pins s1 σ H1 D I1 q1
  | false=>exact hb pins s1 σ H1 D I1 q1
end
abbrev TG:=V->St->Hp->(St->Hp->Prop)->Prop
abbrev TGs:=List V->St->Hp->(St->Hp->Prop)->Prop
def PG (X:Cx) (target:Expr) (t:TG):Prop:=
  ∀ (pins:List (Addr × Obj)) (s:Shared) (σ:St) (H:Hp) (v:V) (u:Value) (Q:St->Hp->Prop),Inv X pins σ H s->RelV v u->t v σ H Q ->
    wpAny (model X.prog X.w) X.A (assign target X.env u) (fun _ s'=>∃ σ' H',Inv X pins σ' H' s'/\Q σ' H') X.xe s
def PGs (X:Cx) (ts:List Expr) (t:TGs):Prop:=
  ∀ (pins:List (Addr × Obj)) (s:Shared) (σ:St) (H:Hp) (vs:List V) (us:List Value) (Q:St->Hp->Prop),Inv X pins σ H s->Vals vs us->t vs σ H Q ->
    wpAny (model X.prog X.w) X.A (assignInOrder ((assignEach ts X.env).map (·.2)) us) (fun _ s'=>∃ σ' H',Inv X pins σ' H' s'/\Q σ' H') X.xe s
abbrev TSet:=V->V->V->Hp->(Hp->Prop)->Prop
def PSet (X:Cx) (t:TSet):Prop:=
  ∀ (pins:List (Addr × Obj)) (s:Shared) (σ:St) (H:Hp) (o i v:V) (ov iv u:Value) (Q:Hp->Prop),Inv X pins σ H s->RelV o ov->RelV i iv->RelV v u->t o i v H Q ->
    wpAny (model X.prog X.w) X.A (setItem ov iv u) (fun _ s'=>∃ H',Inv X pins σ H' s'/\Q H') X.xe s
abbrev TIp:=V->V->Hp->VK->Prop
def PIp (X:Cx) (op:Operator) (t:TIp):Prop:=
  ∀ (pins:List (Addr × Obj)) (s:Shared) (σ:St) (H:Hp) (x y:V) (v u:Value) (Q:VK),Inv X pins σ H s->RelV x v->RelV y u->t x y H Q ->
    wpAny (model X.prog X.w) X.A (inplaceOp op v u) (EP X pins σ Q) X.xe s
section
variable {X:Cx} {pos:Pos}
def gName (i:Nat):TG:=fun v σ H Q=>Q (σ.set i (some v)) H
theorem pg_name {i:Nat} {x:Str} (hN:X.N.Nodup) (hi:X.N[i]?=some x) (hx:Loc X.env.scope x) (hf:X.fn x=true\/X.env.scope.names.lookup x=some .local:=by first | exact .inl rfl | exact .inr rfl | assumption):PG X (.Name x pos) (gName i):=by
  intro pins s σ H v u Q I r h
  exact wpAny_assign_Name (store_ok I hN hi hx r (fun s' I'=>⟨_,H,I',h⟩) hf)
def gNil:TGs:=fun vs σ H Q=>vs=[]/\Q σ H
def gCons (t:TG) (u:TGs):TGs:=fun vs σ H Q=>∃ v r,vs=v :: r/\t v σ H fun σ' H'=>u r σ' H' Q
theorem pgs_nil:PGs X [] gNil:=by
  intro pins s σ H vs us Q I r h
  obtain ⟨e,h⟩:=h
  subst e
  cases r
  exact assignInOrder_nil ⟨σ,H,I,h⟩
theorem pgs_cons {e:Expr} {es:List Expr} {t:TG} {u:TGs} (h1:PG X e t) (h2:PGs X es u)
    (hs:(assignEach (e :: es) X.env).map (·.2)=assign e X.env :: (assignEach es X.env).map (·.2):=by rfl):PGs X (e :: es) (gCons t u):=by
  intro pins s σ H vs us Q I r h
  obtain ⟨v,vr,e1,h⟩:=h
  subst e1
  cases r with
  | cons r rr=>
    rw [hs]
    refine assignInOrder_cons (thn (h1 pins s σ H _ _ _ I r h) fun _ s1 ⟨σ1,H1,I1,q1⟩=>?_)
    exact h2 pins s1 σ1 H1 _ _ Q I1 rr q1
def gTup (K:PySem.W.Frag) (n:Nat) (t:TGs):TG:=fun v σ H Q=>∃ a xs,v=.ref a/\SqT K H a xs/\xs.length=n/\t xs σ H Q
theorem pg_tup {es:List Expr} {k:Nat} {t:TGs} {n:Nat} (hc:X.calm=true) (h:PGs X es t)
    (hn:(assignEach es X.env).length=n:=by rfl) (hst:(assignEach es X.env).findIdx? (·.1)=none:=by rfl):PG X (.Tuple es k pos) (gTup X.K n t):=by
  intro pins s σ H v u Q I r hw
  obtain ⟨a,xs,e1,hq,hl,hw⟩:=hw
  subst e1
  cases r
  obtain ⟨its,rv,ht,hz⟩:=I.tuple hq
  refine assign_Tuple_tuple (I.ok.hd hc) ht (by simp [hn,<- hl,rv.length]) hst fun h' hx=>?_
  have I1:Inv X pins σ H { s with heap:=h' }:=I.kept (t':=s.toks) fun b o e=>hx b o (Nat.ne_of_lt (Heap.lt_size e)) e
  exact h pins _ σ H xs _ Q I1 (by simpa using rv) hw
def gSub (to ti:TE) (t:TSet):TG:=fun v σ H Q=>to σ H fun o H1=>ti σ H1 fun i H2=>t o i v H2 fun H3=>Q σ H3
theorem pg_sub {o i:Expr} {to ti:TE} {t:TSet} (ho:PE X o to) (hi:PE X i ti) (hs:PSet X t)
    (ha:∀ v,assign (.Subscript o i pos) X.env v=(do
      let ov <- holding [v] (eval o X.env)
      let iv <- holding [v,ov] (eval i X.env)
      standAt pos
      holding [v,ov,iv] (setItem ov iv v)
      release [v,ov,iv] []):=by intro _; rfl):PG X (.Subscript o i pos) (gSub to ti t):=by
  intro pins s σ H v u Q I r h
  rw [ha]
  refine wpAny_bind (wpAny_holding (thn (ho pins s σ H _ I h) fun ov s1 ⟨x,H1,I1,r1,q1⟩=>?_))
  refine wpAny_bind (wpAny_holding (thn (hi pins s1 σ H1 _ I1 q1) fun iv s2 ⟨y,H2,I2,r2,q2⟩=>?_))
  refine wpAny_bind (wpAny_standAt (wpAny_bind (wpAny_holding (thn (hs pins s2 σ H2 x y v ov iv u _ I2 r1 r2 r q2) fun _ s3 ⟨H3,I3,q3⟩=>?_))))
  exact wpAny_release ⟨σ,H3,I3,q3⟩
def tAsg (te:TE) (g:TG):TS:=fun D σ H=>te σ H fun x H1=>g x σ H1 D.nx
theorem ps_asg {tg e:Expr} {te:TE} {g:TG} (he:PE X e te) (hg:PG X tg g) (hs:swapsWithSole [tg] e pos.line X.env=pure false:=by rfl) (hw:swappedStores [tg] e X.env=pure none:=by rfl)
    (h1:(assignEach [tg] X.env).map (·.2)=[assign tg X.env]:=by rfl):PS X (.Assign [tg] e pos) (tAsg te g):=by
  intro pins s σ H D I h
  refine wpAny_Assign_stores (thn (he pins s σ H _ I h) fun v s1 ⟨x,H1,I1,r1,q1⟩=>?_) hs hw
  rw [h1]
  exact thn (hg pins s1 σ H1 x v _ I1 r1 q1) fun _ s2 q=>q
theorem ps_set {i:Nat} {x:Str} {e:Expr} {te:TE} {pos':Pos} (hN:X.N.Nodup) (hi:X.N[i]?=some x) (hx:Loc X.env.scope x) (he:PE X e te) (hs:swapsWith e (some (.Name x pos')) pos.line X.env=pure false:=by rfl) (hf:X.fn x=true\/X.env.scope.names.lookup x=some .local:=by first | exact .inl rfl | exact .inr rfl | assumption) :
    PS X (.Assign [.Name x pos'] e pos) (tAsg te (gName i)):=by
  intro pins s σ H D I h
  refine wpAny_Assign_Name (thn (he pins s σ H _ I h) fun v s1 ⟨y,H1,I1,r1,q1⟩=>?_) hs
  exact store_ok I1 hN hi hx r1 (fun s2 I2=>⟨_,H1,I2,q1⟩) hf
def tAug (i:Nat) (te:TE) (ti:TIp):TS:=fun D σ H=>∃ x,σ[i]?=some (some x)/\te σ H fun y H1=>ti x y H1 fun z H2=>D.nx (σ.set i (some z)) H2
theorem ps_aug {i:Nat} {x:Str} {e:Expr} {te:TE} {op:Operator} {ti:TIp} {pos':Pos} (hN:X.N.Nodup) (hi:X.N[i]?=some x) (hx:Loc X.env.scope x) (he:PE X e te) (ho:PIp X op ti) (hf:X.fn x=true\/X.env.scope.names.lookup x=some .local:=by first | exact .inl rfl | exact .inr rfl | assumption) :
    PS X (.AugAssign (.Name x pos') op e pos) (tAug i te ti):=by
  intro pins s σ H D I h
  obtain ⟨v,e1,h⟩:=h
  obtain ⟨m,hn,hl⟩:=I.loc
  have vis:Vis X.env.scope x:=by rcases hx with k | k; exact .inl k; exact .inr (.inl k)
  obtain ⟨u,r,l⟩:=hl i x v hi e1 vis
  refine wpAny_AugAssign_Name ?_
  have go:wpAny (model X.prog X.w) X.A (eval e X.env) (fun w s₂=>wpAny (model X.prog X.w) X.A (inplaceOp op u w) (fun r s₃=>wpAny (model X.prog X.w) X.A (storeName X.env x r) (fun _=>SP X pins D .next) X.xe s₃) X.xe s₂) X.xe s:=by
    refine thn (he pins s σ H _ I h) fun w s1 ⟨y,H1,I1,r1,q1⟩=>?_
    refine thn (ho pins s1 σ H1 v y u w _ I1 r r1 q1) fun z s2 ⟨zv,H2,I2,r2,q2⟩=>?_
    exact store_ok I2 hN hi hx r2 (fun s3 I3=>⟨_,H2,I3,q2⟩) hf
  rcases l with ⟨hk,hm⟩ | ⟨hk,c,hc,hcell⟩
  · exact wpAny_loadName_local I.ok.kind hk hn hm go
  · rcases hk with hk | hk
    · exact wpAny_loadName_cell I.ok.kind hk hc hcell go
    · rcases hx with k | k
      · have:X.env.scope.names.lookup x=some .free:=hk
        rw [k] at this; cases this
      · have:X.env.scope.names.lookup x=some .free:=hk
        rw [k] at this; cases this
def ipI (f:Int->Int->Int):TIp:=fun x y H Q=>∃ i j,x=.int i/\y=.int j/\Q (.int (f i j)) H
theorem ip_add:PIp X .Add (ipI fun i j=>i + j):=by
  intro pins s σ H x y v u Q I r1 r2 h
  obtain ⟨i,j,e1,e2,q⟩:=h
  subst e1; subst e2
  obtain ⟨t,rfl⟩:=r1
  obtain ⟨t',rfl⟩:=r2
  exact iadd_int ⟨.int _,H,I.tok _,⟨_,rfl⟩,q⟩
end
section
variable {X:Cx} {pos:Pos}
def tWhile (c:TT) (tb:TS):TS:=fun D σ H=>∃ W:Nat->St->Hp->Prop,(∃ m,W m σ H)/\∀ m σ H,W m σ H ->
  c σ H fun b H1=>if b=true then ∃ N:St->Hp->Prop,(∀ σ' H',N σ' H'->∃ m',m' < m/\W m' σ' H')/\tb { D with nx:=N,ct:=N,bk:=D.nx } σ H1 else D.nx σ H1
theorem ps_while {c:Expr} {body:List Stmt} {tc:TT} {tb:TS} (hp:PassesOwn (model X.prog X.w) X.A X.env X.xe) (hc:PT X c tc) (hb:PSs X body tb):PS X (.While c body [] pos) (tWhile tc tb):=by
  intro pins s σ H D I h
  obtain ⟨W,⟨m0,w0⟩,turn⟩:=h
  refine wpAny_While (codeAny_whileLoop (fun n s'=>∃ σ' H',Inv X pins σ' H' s'/\W n σ' H') ?_ m0 ⟨σ,H,I,w0⟩)
  rintro n s1 ⟨σ1,H1,I1,w1⟩
  refine wpAny_passesOwn hp (thn (hc pins s1 σ1 H1 _ I1 (turn n σ1 H1 w1)) fun b s2 ⟨H2,I2,q2⟩=>?_)
  cases b with
  | true=>
    obtain ⟨N,hN,q2⟩:=q2
    rw [if_pos rfl]
    refine wpAny_passesOwn hp (thn (hb pins s2 σ1 H2 _ I2 q2) fun f s3 q3=>?_)
    cases f with
    | next=>
      obtain ⟨σ3,H3,I3,n3⟩:=q3
      obtain ⟨m',hm,w3⟩:=hN σ3 H3 n3
      exact ⟨m',hm,σ3,H3,I3,w3⟩
    | cont=>
      obtain ⟨σ3,H3,I3,n3⟩:=q3
      obtain ⟨m',hm,w3⟩:=hN σ3 H3 n3
      exact ⟨m',hm,σ3,H3,I3,w3⟩
    | brk=>exact q3
    | ret v=>exact q3
  | false=>
    rw [if_neg Bool.false_ne_true]
    exact wpAny_execs_nil ⟨σ1,H2,I2,q2⟩
end
structure It where
  go:Nat->Hp->Prop
  yld:Nat->Hp->V->Hp->Prop
  stop:Nat->Hp->Prop
def FpOk (X:Cx) (pins:List (Addr × Obj)) (H:Hp) (b:Addr):Prop:=
  H b=none/\b ≠ X.env.locals/\b ∉ X.fs/\(b ∈ X.ex\/X.s₀.heap.objs.size<=b)/\(∀ x c,X.env.cells.lookup x=some c->c ≠ b)/\∀ p ∈ X.pn ++ pins,p.1 ≠ b
theorem Inv.fpOk {X:Cx} {pins:List (Addr × Obj)} {σ:St} {H H':Hp} {s:Shared} {b:Addr} (I:Inv X pins σ H s) (hb:s.heap.objs.size<=b) (hn:H' b=none):FpOk X pins H' b:=by
  refine ⟨hn,Nat.ne_of_gt (Nat.lt_of_lt_of_le I.lt hb),I.nofs hb,.inr (Nat.le_trans I.sz hb),fun x c e z=>?_,fun p hp z=>?_⟩
  · obtain ⟨v,q⟩:=I.cell x c e
    exact absurd (Nat.lt_of_lt_of_le q.lt (by rw [z]; exact hb)) (Nat.lt_irrefl _)
  · exact absurd (Nat.lt_of_lt_of_le (Heap.lt_size (I.pin p hp).1) (by rw [z]; exact hb)) (Nat.lt_irrefl _)
structure Turn (P:Program) (w:World) (K:PySem.W.Frag) (tg:Expr) (J:It) (fp:List Addr) (it:Addr) (tn:Nat->Heap->Prop):Prop where
  mem:it ∈ fp
  obj:∀ i h,tn i h->∀ b ∈ fp,∃ o,h.get? b=some o/\∀ v,o.data ≠ .cell v
  keep:∀ i h h',tn i h->(∀ b ∈ fp,∀ o,h.get? b=some o->h'.get? b=some o)->tn i h'
  item:∀ (X:Cx),X.prog=P->X.w=w->X.K=K->X.calm=true->∀ (i:Nat) (pins:List (Addr × Obj)) (s:Shared) (σ:St) (H:Hp) (E:Value->Shared->Prop),Inv X pins σ H s->(∀ b ∈ fp,FpOk X pins H b)->tn i s.heap->J.go i H ->
    wpAny (model P w) X.A (pyNext (.ref it)) (fun r s1=>∃ u,r=some u /\
      wpAny (model P w) X.A (letOwnedTupleGo tg (.ref it) u) (fun _ s2=>∃ x H',Inv X pins σ H' s2/\RelV x u/\J.yld i H x H'/\tn (i + 1) s2.heap/\∀ b ∈ fp,H' b=none) E s1) E s
  done:∀ (X:Cx),X.prog=P->X.w=w->X.K=K->X.calm=true->∀ (i:Nat) (pins:List (Addr × Obj)) (s:Shared) (σ:St) (H:Hp) (E:Value->Shared->Prop),Inv X pins σ H s->(∀ b ∈ fp,FpOk X pins H b)->tn i s.heap->J.stop i H ->
    wpAny (model P w) X.A (pyNext (.ref it)) (fun r s1=>r=none/\Inv X pins σ H s1) E s
  self:∀ (A:Around) (i:Nat) (s:Shared) (Q:Value->Shared->Prop) (E:Value->Shared->Prop),tn i s.heap->Q (.ref it) s->wpAny (model P w) A (pyIter (.ref it)) Q E s
abbrev TI:=St->Hp->(It->Hp->Prop)->Prop
def PIE (X:Cx) (pins:List (Addr × Obj)) (σ:St) (tg:Expr) (R:It->Hp->Prop) (itv:Value) (s2:Shared):Prop:=
  ∃ (it:Addr) (fp:List Addr) (tn:Nat->Heap->Prop) (J:It) (H':Hp),itv=.ref it/\Inv X pins σ H' s2/\Turn X.prog X.w X.K tg J fp it tn/\tn 0 s2.heap/\(∀ b ∈ fp,FpOk X pins H' b)/\R J H'
def PI (X:Cx) (tg iter:Expr) (wi:TI):Prop:=
  ∀ (pins:List (Addr × Obj)) (s:Shared) (σ:St) (H:Hp) (R:It->Hp->Prop),Inv X pins σ H s->wi σ H R ->
    wpAny (model X.prog X.w) X.A (eval iter X.env) (fun v s1=>wpAny (model X.prog X.w) X.A (pyIter v) (PIE X pins σ tg R) X.xe s1) X.xe s
theorem go_of {M:Model} {A:Around} {E:Value->Shared->Prop} {s:Shared} {tg:Expr} {it:Addr} {u:Value} {o:Obj} {n:String} {vs:Array Value} {Q:Unit->Shared->Prop} (ho:s.heap.get? it=some o) (hc:o.cls=.type n) (hd:o.data=.fields vs)
    (hn:["enumerate", "zip", "dict_itemiterator", "dict_reverseitemiterator", "odict_iterator", "itertools.zip_longest", "itertools.pairwise"].contains n=false) (hQ:Q () s):wpAny M A (letOwnedTupleGo tg (.ref it) u) Q E s:=by
  unfold letOwnedTupleGo
  cases tg <;> first
    | exact wpAny_pure hQ
    | (cases u <;> first
        | exact wpAny_pure hQ
        | (refine wpAny_bind (wpAny_load ho ?_)
           rw [hc,hd]
           show wpAny M A (if (["enumerate", "zip", "dict_itemiterator", "dict_reverseitemiterator", "odict_iterator", "itertools.zip_longest", "itertools.pairwise"].contains n && vs[0]? == some (rawInt _))=true then _ else _) Q E s
           rw [if_neg (by intro h; rw [hn,Bool.false_and] at h; cases h)]
           exact wpAny_pure hQ))
def Itl (K:PySem.W.Frag) (a:Addr):It:=
  ⟨fun i H=>∃ xs x,SqL K H a xs/\xs[i]?=some x,fun i H x H'=>H'=H/\∀ xs,SqL K H a xs->xs[i]?=some x,fun i H=>∃ xs,SqL K H a xs/\xs.length<=i⟩
def Itt (K:PySem.W.Frag) (a:Addr):It:=
  ⟨fun i H=>∃ xs x,SqT K H a xs/\xs[i]?=some x,fun i H x H'=>H'=H/\∀ xs,SqT K H a xs->xs[i]?=some x,fun i H=>∃ xs,SqT K H a xs/\xs.length<=i⟩
def Itr (lo:Int) (n:Nat):It:=⟨fun i _=>i < n,fun i H x H'=>H'=H/\x=.int (lo + i),fun i _=>n<=i⟩
theorem turn_list {P:Program} {w:World} {K:PySem.W.Frag} {tg:Expr} (a it:Addr):Turn P w K tg (Itl K a) [it] it (fun i h=>h.IsListIter it a i) where
  mem:=by simp
  obj:=fun i h st b hb=>by
    have e:b=it:=by simpa using hb
    subst e
    obtain ⟨o,e,c,d⟩:=st
    exact ⟨o,e,fun v z=>by rw [d] at z; cases z⟩
  keep:=fun i h h' st k=>st.at fun o e=>k it (by simp) o e
  item:=by
    intro X hP hw hK hc i pins s σ H E I hf st hg
    subst hP hw hK
    obtain ⟨xs,x,hq,hx⟩:=hg
    obtain ⟨its,rv,p,hz⟩:=I.list hq
    obtain ⟨u,hu,ru⟩:=rv.get hx
    obtain ⟨f0,f1,f2,f3,f4,f5⟩:=hf it (by simp)
    refine wpAny_pyNext_list_item st p.isList (x:=u) (by simpa using hu) fun h' st' sb=>?_
    have I1:Inv X pins σ H { s with heap:=h' }:=I.turned (t':=s.toks) (fun b o hb e=>(sb.2 b hb).trans e) f0 f1 f3 f4 f5
    obtain ⟨o,e,c,d⟩:=id st'
    exact ⟨u,rfl,go_of (s:={ s with heap:=h' }) e c d (by decide) ⟨x,H,I1,ru,⟨rfl,fun ys hy=>by rw [I.list_inj hy hq]; exact hx⟩,st',fun b hb=>(hf b hb).1⟩⟩
  done:=by
    intro X hP hw hK hc i pins s σ H E I hf st hg
    subst hP hw hK
    obtain ⟨xs,hq,hx⟩:=hg
    obtain ⟨its,rv,p,hz⟩:=I.list hq
    obtain ⟨f0,f1,f2,f3,f4,f5⟩:=hf it (by simp)
    have hl:=rv.length
    exact wpAny_pyNext_list_end (I.ok.hd hc) st p.isList (by simp; omega) fun h' eb=>⟨rfl,I.turned (t':=s.toks) (fun b o hb e=>eb b o hb e) f0 f1 f3 f4 f5⟩
  self:=fun _ _ _ _ _ st h=>wpAny_pyIter_listiter st h
theorem turn_tuple {P:Program} {w:World} {K:PySem.W.Frag} {tg:Expr} (a it:Addr):Turn P w K tg (Itt K a) [it] it (fun i h=>h.IsTupleIter it a i) where
  mem:=by simp
  obj:=fun i h st b hb=>by
    have e:b=it:=by simpa using hb
    subst e
    obtain ⟨o,e,c,d⟩:=st
    exact ⟨o,e,fun v z=>by rw [d] at z; cases z⟩
  keep:=fun i h h' st k=>st.at fun o e=>k it (by simp) o e
  item:=by
    intro X hP hw hK hc i pins s σ H E I hf st hg
    subst hP hw hK
    obtain ⟨xs,x,hq,hx⟩:=hg
    obtain ⟨its,rv,p,hz⟩:=I.tuple hq
    obtain ⟨u,hu,ru⟩:=rv.get hx
    obtain ⟨f0,f1,f2,f3,f4,f5⟩:=hf it (by simp)
    refine wpAny_pyNext_tuple_item st (show s.heap.IsTuple a its.toArray from p) (x:=u) (by simpa using hu) fun h' st' sb=>?_
    have I1:Inv X pins σ H { s with heap:=h' }:=I.turned (t':=s.toks) (fun b o hb e=>(sb.2 b hb).trans e) f0 f1 f3 f4 f5
    obtain ⟨o,e,c,d⟩:=id st'
    exact ⟨u,rfl,go_of (s:={ s with heap:=h' }) e c d (by decide) ⟨x,H,I1,ru,⟨rfl,fun ys hy=>by rw [I.tuple_inj hy hq]; exact hx⟩,st',fun b hb=>(hf b hb).1⟩⟩
  done:=by
    intro X hP hw hK hc i pins s σ H E I hf st hg
    subst hP hw hK
    obtain ⟨xs,hq,hx⟩:=hg
    obtain ⟨its,rv,p,hz⟩:=I.tuple hq
    obtain ⟨f0,f1,f2,f3,f4,f5⟩:=hf it (by simp)
    have hl:=rv.length
    exact wpAny_pyNext_tuple_end (I.ok.hd hc) st (show s.heap.IsTuple a its.toArray from p) (by simp; omega) fun h' eb=>⟨rfl,I.turned (t':=s.toks) (fun b o hb e=>eb b o hb e) f0 f1 f3 f4 f5⟩
  self:=fun _ _ _ _ _ st h=>wpAny_pyIter_tupleiter st h
theorem turn_range {P:Program} {w:World} {K:PySem.W.Frag} {tg:Expr} (it:Addr) (lo:Int) (n:Nat):Turn P w K tg (Itr lo n) [it] it (fun i h=>IsRangeIter h it (lo + (i:Nat) * 1) ((n:Int) - (i:Nat)) 1) where
  mem:=by simp
  obj:=fun i h st b hb=>by
    have e:b=it:=by simpa using hb
    subst e
    exact ⟨_,st,fun v z=>by
      have z':Data.fields _=Data.cell v:=z
      cases z'⟩
  keep:=fun i h h' st k=>k it (by simp) _ st
  item:=by
    intro X hP hw hK hc i pins s σ H E I hf st hg
    subst hP hw hK
    obtain ⟨f0,f1,f2,f3,f4,f5⟩:=hf it (by simp)
    have W:=Walks.range (prog:=X.prog) (w:=X.w) (I.ok.hd hc) it lo 1 n
    refine W.item i s _ _ hg st fun v h' tk hv st' kk=>?_
    obtain ⟨t,rfl⟩:=hv
    have I1:Inv X pins σ H { s with heap:=h',toks:=tk }:=I.turned (fun b o hb e=>kk b o (by simpa using hb) e) f0 f1 f3 f4 f5
    refine ⟨_,rfl,go_of (s:={ s with heap:=h',toks:=tk }) (n := "range_iterator") st' rfl rfl (by decide) ⟨.int (lo + i),H,I1,⟨t,?_⟩,⟨rfl,rfl⟩,st',fun b hb=>(hf b hb).1⟩⟩
    rw [Int.mul_one]
  done:=by
    intro X hP hw hK hc i pins s σ H E I hf st hg
    subst hP hw hK
    obtain ⟨f0,f1,f2,f3,f4,f5⟩:=hf it (by simp)
    exact wpAny_pyNext_range_end (I.ok.hd hc) st (by have:n<=i:=hg; omega) fun h' eb=>⟨rfl,I.turned (t':=s.toks) (fun b o hb e=>eb b o hb e) f0 f1 f3 f4 f5⟩
  self:=fun _ _ _ _ _ st h=>wpAny_pyIter_rangeiter st h
end L2
namespace L2
open PySem PySem.Spec PyProof.Rows
section
variable {X:Cx} {tg:Expr}
def iList (K:PySem.W.Frag) (tl:TE):TI:=fun σ H R=>tl σ H fun x H1=>∃ a,x=.ref a/\(∃ xs,SqL K H1 a xs)/\R (Itl K a) H1
def iTup (K:PySem.W.Frag) (tl:TE):TI:=fun σ H R=>tl σ H fun x H1=>∃ a,x=.ref a/\(∃ xs,SqT K H1 a xs)/\R (Itt K a) H1
theorem pi_list {l:Expr} {tl:TE} (hl:PE X l tl):PI X tg l (iList X.K tl):=by
  intro pins s σ H R I h
  refine thn (hl pins s σ H _ I h) fun v s1 ⟨x,H1,I1,r1,q1⟩=>?_
  obtain ⟨a,e,⟨xs,hq⟩,q⟩:=q1
  subst e
  cases r1
  obtain ⟨its,rv,p,hz⟩:=I1.list hq
  refine wpAny_pyIter_list p.isList ?_
  refine ⟨s1.heap.objs.size,[s1.heap.objs.size],_,_,H1,rfl,I1.kept (t':=s1.toks) fun b o e=>Heap.get?_push_of_some _ e,turn_list a _,⟨_,Heap.get?_push_size _ rfl,rfl,rfl⟩,fun b hb=>?_,q⟩
  have e:b=s1.heap.objs.size:=by simpa using hb
  subst e
  exact I1.fpOk (Nat.le_refl _) (I1.hok.fresh (Nat.le_refl _))
theorem pi_tup {l:Expr} {tl:TE} (hl:PE X l tl):PI X tg l (iTup X.K tl):=by
  intro pins s σ H R I h
  refine thn (hl pins s σ H _ I h) fun v s1 ⟨x,H1,I1,r1,q1⟩=>?_
  obtain ⟨a,e,⟨xs,hq⟩,q⟩:=q1
  subst e
  cases r1
  obtain ⟨its,rv,p,hz⟩:=I1.tuple hq
  refine wpAny_pyIter_tuple (show s1.heap.IsTuple a its.toArray from p) ?_
  refine ⟨s1.heap.objs.size,[s1.heap.objs.size],_,_,H1,rfl,I1.kept (t':=s1.toks) fun b o e=>Heap.get?_push_of_some _ e,turn_tuple a _,⟨_,Heap.get?_push_size _ rfl,rfl,rfl⟩,fun b hb=>?_,q⟩
  have e:b=s1.heap.objs.size:=by simpa using hb
  subst e
  exact I1.fpOk (Nat.le_refl _) (I1.hok.fresh (Nat.le_refl _))
theorem range_it {pins:List (Addr × Obj)} {σ:St} {H:Hp} {s:Shared} {R:It->Hp->Prop} {E:Value->Shared->Prop} {lo hi:Int} {t u v:Tok} {tk:Nat} (I:Inv X pins σ H s) (h1:-(2 ^ 62)<=lo) (h2:lo < 2 ^ 62) (h3:-(2 ^ 62)<=hi) (h4:hi < 2 ^ 62)
    (q:R (Itr lo (hi - lo).toNat) H):wpAny (model X.prog X.w) X.A (pyIter (.ref s.heap.objs.size)) (PIE X pins σ tg R) E { s with heap:=s.heap.push { cls:=.type "range",data:=.fields #[.int lo t,.int hi u,.int 1 v] },toks:=tk }:=by
  refine wpAny_pyIter_range (IsRange.new ..) (small_one h1 h2 h3 h4) ?_
  have I1:Inv X pins σ H { s with heap:=s.heap.push { cls:=.type "range",data:=.fields #[.int lo t,.int hi u,.int 1 v] },toks:=tk }:=I.kept fun b o e=>Heap.get?_push_of_some _ e
  refine ⟨(s.heap.push { cls:=.type "range",data:=.fields #[.int lo t,.int hi u,.int 1 v] }).objs.size,[(s.heap.push { cls:=.type "range",data:=.fields #[.int lo t,.int hi u,.int 1 v] }).objs.size],_,_,H,rfl,
    I1.kept (t':=tk) fun b o e=>Heap.get?_push_of_some _ e,turn_range _ lo (hi - lo).toNat,?_,fun b hb=>?_,q⟩
  · have e1:lo + ((0:Nat):Int) * 1=lo:=by simp
    have e2:(((hi - lo).toNat:Nat):Int) - ((0:Nat):Int)=Builtin.Range.rangeSize lo hi 1:=by rw [rangeSize_one]; split <;> omega
    show IsRangeIter _ _ (lo + ((0:Nat):Int) * 1) ((((hi - lo).toNat:Nat):Int) - ((0:Nat):Int)) 1
    rw [e1,e2]
    exact Heap.get?_push_size _ rfl
  · have e:b=(s.heap.push { cls:=.type "range",data:=.fields #[.int lo t,.int hi u,.int 1 v] }).objs.size:=by simpa using hb
    subst e
    exact I1.fpOk (Nat.le_refl _) (I1.hok.fresh (Nat.le_refl _))
def iRng1 (ta:TA):TI:=fun σ H R=>ta σ H fun vs H1=>∃ j:Int,vs=[.int j]/\-(2 ^ 62)<=j/\j < 2 ^ 62/\R (Itr 0 j.toNat) H1
theorem pi_range1 {a:Expr} {ta:TA} {p pos:Pos} (hg:Gl X "range") (hm:X.mg "range" = none) (ha:PA X [a] ta) (hs:starEach [a] X.env=[(false,eval a X.env)]:=by rfl):PI X tg (.Call (.Name "range" p) [a] [] pos) (iRng1 ta):=by
  intro pins s σ H R I h
  refine Call_ (ld_blt I hg hm boot_range (PyProof.Rows.callWith_type1 (thn (ha pos pins s σ H _ I h) fun us s1 ⟨vs,H1,I1,r1,q1⟩=>?_) hs rfl))
  obtain ⟨j,e,q1,q2,q⟩:=q1
  subst e
  cases r1 with
  | cons r rr=>
    cases rr
    obtain ⟨t,rfl⟩:=r
    exact call_range_1 (range_it I1 (by omega) (by omega) q1 q2 (by simpa using q))
def tFor (wi:TI) (g:TG) (tb:TS):TS:=fun D σ H=>wi σ H fun J H1=>∃ W:Nat->Nat->St->Hp->Prop,(∃ m,W 0 m σ H1)/\∀ i m σ H,W i m σ H ->
  (J.stop i H/\D.nx σ H)\/(J.go i H/\∃ N:St->Hp->Prop,(∀ σ' H',N σ' H'->∃ m',m' < m/\W (i + 1) m' σ' H')/\∀ x H',J.yld i H x H'->g x σ H' fun σ2 H2=>tb { D with nx:=N,ct:=N,bk:=D.nx } σ2 H2)
def pinsAt (fp:List Addr) (h:Heap):List (Addr × Obj):=fp.filterMap fun b=>(h.get? b).map fun o=>(b,o)
theorem mem_pinsAt {fp:List Addr} {h:Heap} {b:Addr} {o:Obj} (hb:b ∈ fp) (e:h.get? b=some o):(b,o) ∈ pinsAt fp h:=List.mem_filterMap.mpr ⟨b,hb,by rw [e]; rfl⟩
theorem of_pinsAt {fp:List Addr} {h:Heap} {p:Addr × Obj} (hp:p ∈ pinsAt fp h):p.1 ∈ fp/\h.get? p.1=some p.2:=by
  obtain ⟨b,hb,e⟩:=List.mem_filterMap.mp hp
  cases q:h.get? b with
  | none=>rw [q] at e; cases e
  | some o=>
    rw [q] at e
    have e':(b,o)=p:=Option.some.inj e
    subst e'
    exact ⟨hb,q⟩
theorem Inv.pinned {pins:List (Addr × Obj)} {σ:St} {H:Hp} {s:Shared} {fp:List Addr} (I:Inv X pins σ H s) (hf:∀ b ∈ fp,FpOk X pins H b) (ho:∀ b ∈ fp,∃ o,s.heap.get? b=some o/\∀ v,o.data ≠ .cell v):Inv X (pins ++ pinsAt fp s.heap) σ H s:=
  I.pins_of fun p hp=>(List.mem_append.mp hp).elim (fun z=>I.pin p (List.mem_append_right _ z)) fun z=>by
    obtain ⟨hb,e⟩:=of_pinsAt z
    obtain ⟨f0,f1,f2,_⟩:=hf p.1 hb
    obtain ⟨o,e',d⟩:=ho p.1 hb
    rw [e] at e'; cases e'
    exact ⟨e,f0,f1,f2,d⟩
theorem Inv.unpinned {pins pl:List (Addr × Obj)} {σ:St} {H:Hp} {s:Shared} (I:Inv X (pins ++ pl) σ H s):Inv X pins σ H s:=I.pins_of fun p hp=>I.pin p (List.mem_append_right _ (List.mem_append_left _ hp))
theorem ps_for {iter:Expr} {body:List Stmt} {wi:TI} {g:TG} {tb:TS} {pos:Pos} (hp:PassesOwn (model X.prog X.w) X.A X.env X.xe) (hc:X.calm=true) (hi:PI X tg iter wi) (hg:PG X tg g) (hb:PSs X body tb)
    (hs:∀ x,foldedSetIterable iter X.env x=pure x:=by intro _; rfl):PS X (.For tg iter body [] pos) (tFor wi g tb):=by
  intro pins s σ H D I h
  refine wpAny_For (thn (hi pins s σ H _ I h) fun v s1 h1=>thn h1 fun itv s2 h2=>?_) hs
  obtain ⟨it,fp,tn,J,H2,e,I2,T,st2,f2,W,⟨m0,w0⟩,turn⟩:=h2
  subst e
  have stat:∀ {H':Hp},(∀ b ∈ fp,H' b=none)->∀ b ∈ fp,FpOk X pins H' b:=fun hn b hb=>⟨hn b hb,(f2 b hb).2⟩
  refine codeAny_forLoop_any (fun n s'=>∃ i σ' H',Inv X pins σ' H' s'/\tn i s'.heap/\(∀ b ∈ fp,H' b=none)/\W i n σ' H') ?_ m0 ⟨0,σ,H2,I2,st2,fun b hb=>(f2 b hb).1,w0⟩
  rintro n s3 ⟨i,σ3,H3,I3,st3,fr3,w3⟩
  rcases turn i n σ3 H3 w3 with ⟨stop,qn⟩ | ⟨go,N,hN,step⟩
  · refine wpAny_passesOwn hp (thn (T.done X rfl rfl rfl hc i pins s3 σ3 H3 X.xe I3 (stat fr3) st3 stop) fun r s4 ⟨hr,I4⟩=>?_)
    subst hr
    exact wpAny_execs_nil ⟨σ3,H3,I4,qn⟩
  · refine wpAny_passesOwn hp (thn (T.item X rfl rfl rfl hc i pins s3 σ3 H3 X.xe I3 (stat fr3) st3 go) fun r s4 ⟨u,hr,h4⟩=>?_)
    subst hr
    refine wpAny_passesOwn hp (thn h4 fun _ s5 ⟨x,H5,I5,r5,y5,st5,fr5⟩=>?_)
    have I5':=I5.pinned (stat fr5) (T.obj _ _ st5)
    refine wpAny_passesOwn hp (thn (hg _ s5 σ3 H5 x u _ I5' r5 (step x H5 y5)) fun _ s6 ⟨σ6,H6,I6,q6⟩=>?_)
    refine wpAny_passesOwn hp (thn (hb _ s6 σ6 H6 _ I6 q6) fun f s7 q7=>?_)
    have again:∀ {σ7:St} {H7:Hp},Inv X (pins ++ pinsAt fp s5.heap) σ7 H7 s7->N σ7 H7->∃ m,m < n/\∃ i σ' H',Inv X pins σ' H' s7/\tn i s7.heap/\(∀ b ∈ fp,H' b=none)/\W i m σ' H':=fun {σ7 H7} I7 n7=>by
      obtain ⟨m',hm,w7⟩:=hN σ7 H7 n7
      refine ⟨m',hm,i + 1,σ7,H7,I7.unpinned,T.keep _ _ _ st5 fun b hb o e=>(I7.pin (b,o) (List.mem_append_right _ (List.mem_append_right _ (mem_pinsAt hb e)))).1,fun b hb=>?_,w7⟩
      obtain ⟨o,e,d⟩:=T.obj _ _ st5 b hb
      exact (I7.pin (b,o) (List.mem_append_right _ (List.mem_append_right _ (mem_pinsAt hb e)))).2.1
    cases f with
    | next=>obtain ⟨σ7,H7,I7,n7⟩:=q7; exact again I7 n7
    | cont=>obtain ⟨σ7,H7,I7,n7⟩:=q7; exact again I7 n7
    | brk=>obtain ⟨σ7,H7,I7,q7⟩:=q7; exact ⟨σ7,H7,I7.unpinned,q7⟩
    | ret v=>obtain ⟨x7,σ7,H7,I7,r7,q7⟩:=q7; exact ⟨x7,σ7,H7,I7.unpinned,r7,q7⟩
end
end L2
namespace L2
open PySem PySem.Spec PyProof.Rows
abbrev R2:=V->V->Hp->VK->Prop
def OpR (X:Cx) (f:Value->Value->Sem Value) (r:R2):Prop:=
  ∀ (pins:List (Addr × Obj)) (s:Shared) (σ:St) (H:Hp) (x y:V) (v u:Value) (Q:VK),Inv X pins σ H s->RelV x v->RelV y u->r x y H Q ->
    wpAny (model X.prog X.w) X.A (f v u) (EP X pins σ Q) X.xe s
def UnR (X:Cx) (f:Value->Sem Value) (r:V->Hp->VK->Prop):Prop:=
  ∀ (pins:List (Addr × Obj)) (s:Shared) (σ:St) (H:Hp) (x:V) (v:Value) (Q:VK),Inv X pins σ H s->RelV x v->r x H Q ->
    wpAny (model X.prog X.w) X.A (f v) (EP X pins σ Q) X.xe s
def CallR (X:Cx) (f:Value) (r:List V->Hp->VK->Prop):Prop:=
  ∀ (pins:List (Addr × Obj)) (s:Shared) (σ:St) (H:Hp) (xs:List V) (us:List Value) (Q:VK),Inv X pins σ H s->Vals xs us->r xs H Q ->
    wpAny (model X.prog X.w) X.A (call f us) (EP X pins σ Q) X.xe s
def tOp (r:R2) (ta tb:TE):TE:=fun σ H Q=>ta σ H fun x H1=>tb σ H1 fun y H2=>r x y H2 Q
def tUn (r:V->Hp->VK->Prop) (ta:TE):TE:=fun σ H Q=>ta σ H fun x H1=>r x H1 Q
def rI (C:Int->Int->Prop) (g:Int->Int->V):R2:=fun x y H Q=>∃ i j,x=.int i/\y=.int j/\C i j/\Q (g i j) H
def rI0 (g:Int->Int->V):R2:=fun x y H Q=>∃ i j,x=.int i/\y=.int j/\Q (g i j) H
def rU (g:Int->V):V->Hp->VK->Prop:=fun x H Q=>∃ i,x=.int i/\Q (g i) H
section
variable {X:Cx} {a b c:Expr} {ta tb tc:TE} {pos:Pos}
theorem binT (ha:PE X a ta) (hb:PE X b tb) {pins:List (Addr × Obj)} {s:Shared} {σ:St} {H:Hp} {R:V->V->Hp->Prop} (I:Inv X pins σ H s)
    (h:ta σ H fun x H1=>tb σ H1 fun y H2=>R x y H2) {Q:Value->Shared->Prop} {f:Value->Value->Sem Value}
    (hf:∀ v u s2 x y H2,Inv X pins σ H2 s2->RelV x v->RelV y u->R x y H2->wpAny (model X.prog X.w) X.A (f v u) Q X.xe s2) :
    wpAny (model X.prog X.w) X.A (eval a X.env) (fun v s₁=>wpAny (model X.prog X.w) X.A (eval b X.env) (fun u s₂=>wpAny (model X.prog X.w) X.A (f v u) Q X.xe s₂) X.xe s₁) X.xe s:=by
  refine thn (ha pins s σ H _ I h) fun v s1 ⟨x,H1,I1,r1,q1⟩=>?_
  refine thn (hb pins s1 σ H1 _ I1 q1) fun u s2 ⟨y,H2,I2,r2,q2⟩=>?_
  exact hf v u s2 x y H2 I2 r1 r2 q2
theorem pe_op {op:Operator} {r:R2} (ho:OpR X (binaryOp op) r) (ha:PE X a ta) (hb:PE X b tb):PE X (.BinOp a op b pos) (tOp r ta tb):=by
  intro pins s σ H Q I h
  exact wpAny_BinOp (binT ha hb I h fun v u s2 x y H2 I2 rx ry q=>ho pins s2 σ H2 x y v u Q I2 rx ry q)
theorem pe_un {op:UnaryOp} {r:V->Hp->VK->Prop} (ho:UnR X (unaryOp op) r) (ha:PE X a ta):PE X (.UnaryOp op a pos) (tUn r ta):=by
  intro pins s σ H Q I h
  exact UnaryOp_ (thn (ha pins s σ H _ I h) fun v s1 ⟨x,H1,I1,r1,q1⟩=>ho pins s1 σ H1 x v Q I1 r1 q1)
theorem opI {f:Value->Value->Sem Value} {C:Int->Int->Prop} {g:Int->Int->Int}
    (rule:∀ (i j:Int) (t u:Tok) (s:Shared) (Q:Value->Shared->Prop) (E:Value->Shared->Prop),C i j->Q (.int (g i j) s.toks) { s with toks:=s.toks + 1 }->wpAny (model X.prog X.w) X.A (f (.int i t) (.int j u)) Q E s) :
    OpR X f (rI C fun i j=>.int (g i j)):=by
  intro pins s σ H x y v u Q I rx ry h
  obtain ⟨i,j,rfl,rfl,hc,q⟩:=h
  obtain ⟨t,rfl⟩:=rx
  obtain ⟨t',rfl⟩:=ry
  exact rule i j t t' s _ _ hc ⟨.int (g i j),H,I.tok _,⟨_,rfl⟩,q⟩
theorem opI0 {f:Value->Value->Sem Value} {g:Int->Int->Int}
    (rule:∀ (i j:Int) (t u:Tok) (s:Shared) (Q:Value->Shared->Prop) (E:Value->Shared->Prop),Q (.int (g i j) s.toks) { s with toks:=s.toks + 1 }->wpAny (model X.prog X.w) X.A (f (.int i t) (.int j u)) Q E s) :
    OpR X f (rI0 fun i j=>.int (g i j)):=by
  intro pins s σ H x y v u Q I rx ry h
  obtain ⟨i,j,rfl,rfl,q⟩:=h
  obtain ⟨t,rfl⟩:=rx
  obtain ⟨t',rfl⟩:=ry
  exact rule i j t t' s _ _ ⟨.int (g i j),H,I.tok _,⟨_,rfl⟩,q⟩
theorem opB0 {f:Value->Value->Sem Value} {g:Int->Int->Bool}
    (rule:∀ (i j:Int) (t u:Tok) (s:Shared) (Q:Value->Shared->Prop) (E:Value->Shared->Prop),Q (.bool (g i j)) s->wpAny (model X.prog X.w) X.A (f (.int i t) (.int j u)) Q E s) :
    OpR X f (rI0 fun i j=>.bl (g i j)):=by
  intro pins s σ H x y v u Q I rx ry h
  obtain ⟨i,j,rfl,rfl,q⟩:=h
  obtain ⟨t,rfl⟩:=rx
  obtain ⟨t',rfl⟩:=ry
  exact rule i j t t' s _ _ ⟨.bl (g i j),H,I,rfl,q⟩
def CDiv (i j:Int):Prop:=0 < j/\j < 1073741824
def CPow (i j:Int):Prop:=0<=j/\j<=1000000/\i.natAbs < 2 ^ 64
def CMul (i j:Int):Prop:=(-(2 ^ 64) < i/\i < 2 ^ 64)\/(-(2 ^ 64) < j/\j < 2 ^ 64)
theorem CMul.ok {i j:Int} (h:CMul i j):IntMulOk i j:=by
  rcases h with ⟨h1,h2⟩ | ⟨h1,h2⟩
  · exact .of_left (intBits_le_64 h1 h2)
  · exact .of_right (intBits_le_64 h1 h2)
theorem op_add:OpR X (binaryOp .Add) (rI0 fun i j=>.int (i + j)):=opI0 fun _ _ _ _ _ _ _ q=>add_int q
theorem op_sub:OpR X (binaryOp .Sub) (rI0 fun i j=>.int (i - j)):=opI0 fun _ _ _ _ _ _ _ q=>sub_int q
theorem op_mul:OpR X (binaryOp .Mult) (rI CMul fun i j=>.int (i * j)):=opI fun _ _ _ _ _ _ _ hc q=>mul_int q hc.ok
theorem op_fdiv:OpR X (binaryOp .FloorDiv) (rI CDiv fun i j=>.int (i / j)):=opI fun i j _ _ _ _ _ hc q=>by
  have h1:(0:Int) < j:=hc.1
  have h2:j < 1073741824:=hc.2
  exact floordiv_int (by omega) (by rw [Int.fdiv_eq_ediv_of_nonneg i (by omega)]; exact q) (.inl (PyProof.noPylong_small (by omega)))
theorem op_mod:OpR X (binaryOp .Mod) (rI (fun _ j=>0 < j) fun i j=>.int (i % j)):=opI fun i j _ _ _ _ _ hc q=>by
  have h1:(0:Int) < j:=hc
  exact mod_int' (by omega) (by rw [Int.fmod_eq_emod_of_nonneg i (by omega)]; exact q)
theorem op_pow:OpR X (binaryOp .Pow) (rI CPow fun i j=>.int (i ^ j.toNat)):=opI fun _ _ _ _ _ _ _ hc q=>pow_int_small hc.1 hc.2.1 hc.2.2 q
theorem unI {f:Value->Sem Value} {g:Int->Int}
    (rule:∀ (i:Int) (t:Tok) (s:Shared) (Q:Value->Shared->Prop) (E:Value->Shared->Prop),Q (.int (g i) s.toks) { s with toks:=s.toks + 1 }->wpAny (model X.prog X.w) X.A (f (.int i t)) Q E s) :
    UnR X f (rU fun i=>.int (g i)):=by
  intro pins s σ H x v Q I rx h
  obtain ⟨i,rfl,q⟩:=h
  obtain ⟨t,rfl⟩:=rx
  exact rule i t s _ _ ⟨.int (g i),H,I.tok _,⟨_,rfl⟩,q⟩
theorem un_neg:UnR X (unaryOp .USub) (rU fun i=>.int (-i)):=unI fun _ _ _ _ _ q=>neg_int q
end
def scal:V->V->Bool
  | .non,.non=>true | .non,.int _=>true | .int _,.non=>true | .non,.bl _=>true | .bl _,.non=>true | .non,.str _=>true | .str _,.non=>true
  | .int _,.int _=>true | .bl _,.bl _=>true | .str _,.str _=>true | .byt _,.byt _=>true
  | .int _,.str _=>true | .str _,.int _=>true | .bl _,.str _=>true | .str _,.bl _=>true
  | _,_=>false
def rNe:R2:=fun x y H Q=>scal x y=true/\Q (.bl (!decide (x=y))) H
theorem dec_int {i j:Int}:decide (V.int i=V.int j)=(i == j):=by
  rw [Bool.eq_iff_iff]
  simp
theorem dec_bl {i j:Bool}:decide (V.bl i=V.bl j)=(i == j):=by
  rw [Bool.eq_iff_iff]
  simp
theorem dec_str {i j:Str}:decide (V.str i=V.str j)=(i == j):=by
  rw [Bool.eq_iff_iff]
  simp
theorem dec_byt {i j:Array UInt8}:decide (V.byt i=V.byt j)=(i.toList == j.toList):=by
  rw [Bool.eq_iff_iff]
  cases i
  cases j
  simp
section
variable {X:Cx} {a b c:Expr} {ta tb tc:TE} {pos:Pos}
theorem fin_bl {pins:List (Addr × Obj)} {σ:St} {H:Hp} {s:Shared} {Q:VK} {k k':Bool} (I:Inv X pins σ H s) (q:Q (.bl k) H) (e:k=k'):EP X pins σ Q (.bool k') s:=by
  subst e
  exact ⟨.bl k,H,I,rfl,q⟩
theorem op_ne:OpR X (compareOp .NotEq) rNe:=by
  intro pins s σ H x y v u Q I rx ry h
  obtain ⟨hs,q⟩:=h
  cases x with
  | non=>
    cases rx
    cases y with
    | non=>cases ry; exact PySem.EqNone.ne_none_none (fin_bl I q (by simp))
    | bl j=>cases ry; exact PySem.EqNone.ne_none_bool (fin_bl I q (by simp))
    | int j=>obtain ⟨t',rfl⟩:=ry; exact PySem.EqNone.ne_none_int (fin_bl I q (by simp))
    | str j=>obtain ⟨t',rfl⟩:=ry; exact PySem.EqNone.ne_none_str (fin_bl I q (by simp))
    | _=>exact absurd (show false=true from hs) Bool.false_ne_true
  | bl i=>
    cases rx
    cases y with
    | non=>cases ry; exact PySem.EqNone.ne_bool_none (fin_bl I q (by simp))
    | bl j=>cases ry; exact ne_bool (fin_bl I q (congrArg not dec_bl))
    | str j=>obtain ⟨t',rfl⟩:=ry; exact PySem.EqMixed.ne_bool_str (fin_bl I q (by simp))
    | _=>exact absurd (show false=true from hs) Bool.false_ne_true
  | int i=>
    obtain ⟨t,rfl⟩:=rx
    cases y with
    | non=>cases ry; exact PySem.EqNone.ne_int_none (fin_bl I q (by simp))
    | int j=>obtain ⟨t',rfl⟩:=ry; exact ne_int (fin_bl I q (congrArg not dec_int))
    | str j=>obtain ⟨t',rfl⟩:=ry; exact PySem.EqMixed.ne_int_str (fin_bl I q (by simp))
    | _=>exact absurd (show false=true from hs) Bool.false_ne_true
  | str i=>
    obtain ⟨t,rfl⟩:=rx
    cases y with
    | non=>cases ry; exact PySem.EqNone.ne_str_none (fin_bl I q (by simp))
    | bl j=>cases ry; exact PySem.EqMixed.ne_str_bool (fin_bl I q (by simp))
    | int j=>obtain ⟨t',rfl⟩:=ry; exact PySem.EqMixed.ne_str_int (fin_bl I q (by simp))
    | str j=>obtain ⟨t',rfl⟩:=ry; exact ne_str (fin_bl I q (congrArg not dec_str))
    | _=>exact absurd (show false=true from hs) Bool.false_ne_true
  | byt i=>
    obtain ⟨t,rfl⟩:=rx
    cases y with
    | byt j=>obtain ⟨t',rfl⟩:=ry; exact PySem.W.ne_bytes (fin_bl I q (congrArg not dec_byt))
    | _=>exact absurd (show false=true from hs) Bool.false_ne_true
  | _=>cases y <;> exact absurd (show false=true from hs) Bool.false_ne_true
theorem op_lt:OpR X (compareOp .Lt) (rI0 fun i j=>.bl (decide (i < j))):=opB0 fun _ _ _ _ _ _ _ q=>lt_int q
theorem op_le:OpR X (compareOp .LtE) (rI0 fun i j=>.bl (decide (i<=j))):=opB0 fun _ _ _ _ _ _ _ q=>le_int q
theorem op_gt:OpR X (compareOp .Gt) (rI0 fun i j=>.bl (decide (j < i))):=opB0 fun _ _ _ _ _ _ _ q=>gt_int q
theorem op_ge:OpR X (compareOp .GtE) (rI0 fun i j=>.bl (decide (j<=i))):=opB0 fun _ _ _ _ _ _ _ q=>ge_int q
theorem op_isN:OpR X (compareOp .Is) (fun x y H Q=>y=.non/\Q (.bl (decide (x=.non))) H):=by
  intro pins s σ H x y v u Q I rx ry h
  obtain ⟨rfl,q⟩:=h
  cases ry
  refine is_none_gen (fin_bl I q ?_)
  cases x <;> first
    | (cases rx; rfl)
    | (obtain ⟨t,rfl⟩:=rx; rfl)
theorem op_notN:OpR X (compareOp .IsNot) (fun x y H Q=>y=.non/\Q (.bl (!decide (x=.non))) H):=by
  intro pins s σ H x y v u Q I rx ry h
  obtain ⟨rfl,q⟩:=h
  cases ry
  refine isnot_none_gen (fin_bl I q ?_)
  cases x <;> first
    | (cases rx; rfl)
    | (obtain ⟨t,rfl⟩:=rx; rfl)
theorem OpR.or {f:Value->Value->Sem Value} {r r':R2} (h:OpR X f r) (h':OpR X f r'):OpR X f (fun x y H Q=>r x y H Q\/r' x y H Q):=by
  intro pins s σ H x y v u Q I rx ry q
  rcases q with q | q
  · exact h pins s σ H x y v u Q I rx ry q
  · exact h' pins s σ H x y v u Q I rx ry q
theorem nomark (b:Expr) {op:CmpOp} (h:op ≠ .In:=by decide) (h2:op ≠ .NotIn:=by decide):behindInMarks op b=false:=by
  have e1:(op == CmpOp.In)=false:=by cases op <;> first | rfl | exact absurd rfl h
  have e2:(op == CmpOp.NotIn)=false:=by cases op <;> first | rfl | exact absurd rfl h2
  cases b <;> simp [behindInMarks,e1,e2]
theorem pe_cmpR {op:CmpOp} {r:R2} (ho:OpR X (compareOp op) r) (ha:PE X a ta) (hb:PE X b tb) (hm:behindInMarks op b=false):PE X (.Compare a [op] [b] pos) (tOp r ta tb):=by
  intro pins s σ H Q I h
  exact wpAny_Compare1 (binT ha hb I h fun v u s2 x y H2 I2 rx ry q=>ho pins s2 σ H2 x y v u Q I2 rx ry q) hm
def tTest (t:TE):TT:=fun σ H Q=>t σ H fun x H'=>∃ k,x=.bl k/\Q k H'
theorem pt_cmpR {op:CmpOp} {r:R2} (ho:OpR X (compareOp op) r) (ha:PE X a ta) (hb:PE X b tb) (hm:behindInMarks op b=false):PT X (.Compare a [op] [b] pos) (tTest (tOp r ta tb)):=by
  intro pins s σ H Q I h
  refine wpAny_isTrue_Compare1 (thn (ha pins s σ H _ I h) fun v s1 ⟨x,H1,I1,r1,q1⟩=>thn (hb pins s1 σ H1 _ I1 q1) fun u s2 ⟨y,H2,I2,r2,q2⟩=>
    thn (ho pins s2 σ H2 x y v u _ I2 r1 r2 q2) fun c s3 ⟨z,H3,I3,r3,k,e,q3⟩=>?_) hm
  subst e
  cases r3
  exact wpAny_truthy_bool ⟨H3,I3,q3⟩
def tChain (r r':R2) (ta tb tc:TE):TE:=fun σ H Q=>ta σ H fun x H1=>tb σ H1 fun y H2=>r x y H2 fun z H3=>∃ k,z=.bl k /\
  (if k=true then tc σ H3 fun w' H4=>r' y w' H4 Q else Q (.bl false) H3)
theorem pe_chain {op op':CmpOp} {r r':R2} (ho:OpR X (compareOp op) r) (ho':OpR X (compareOp op') r') (ha:PE X a ta) (hb:PE X b tb) (hc:PE X c tc)
    (hm:lastMarks [op,op'] [b,c]=false:=by with_unfolding_all rfl):PE X (.Compare a [op,op'] [b,c] pos) (tChain r r' ta tb tc):=by
  intro pins s σ H Q I h
  refine Compare_chain (thn (ha pins s σ H _ I h) fun v s1 ⟨x,H1,I1,r1,q1⟩=>chain_link (thn (hb pins s1 σ H1 _ I1 q1) fun u s2 ⟨y,H2,I2,r2,q2⟩=>
    thn (ho pins s2 σ H2 x y v u _ I2 r1 r2 q2) fun d s3 ⟨z,H3,I3,r3,k,e,q3⟩=>?_)) hm
  subst e
  cases r3
  refine wpAny_truthy_bool ?_
  cases k with
  | false=>exact ite_ff ⟨.bl false,H3,I3,rfl,q3⟩
  | true=>exact ite_tt (chain_last (thn (hc pins s3 σ H3 _ I3 q3) fun w' s4 ⟨z',H4,I4,r4,q4⟩=>ho' pins s4 σ H4 y z' u w' Q I4 r2 r4 q4))
theorem line63:(sizeLine:Nat) < 2 ^ 63:=by rw [sizeLine_eq]; decide
theorem op_add_str:OpR X (binaryOp .Add) (fun x y H Q=>∃ i j,x=.str i/\y=.str j/\i.length + j.length<=sizeLine/\Q (.str (i ++ j)) H):=by
  intro pins s σ H x y v u Q I rx ry h
  obtain ⟨i,j,rfl,rfl,hz,q⟩:=h
  obtain ⟨t,rfl⟩:=rx
  obtain ⟨t',rfl⟩:=ry
  exact add_str (fun t' tk=>⟨.str (i ++ j),H,I.tok _,⟨_,rfl⟩,q⟩) hz
theorem vals1 {x:V} {us:List Value} (r:Vals [x] us):∃ u,us=[u]/\RelV x u:=by
  cases r with
  | cons r1 r2=>cases r2; exact ⟨_,rfl,r1⟩
theorem vals2 {x y:V} {us:List Value} (r:Vals [x,y] us):∃ u w',us=[u,w']/\RelV x u/\RelV y w':=by
  cases r with
  | cons r1 r2=>
    cases r2 with
    | cons r3 r4=>cases r4; exact ⟨_,_,rfl,r1,r3⟩
end
end L2
namespace L2
open PySem PySem.Spec PyProof.Rows
structure ObjM (h:Heap) (x dx C:Addr) (mA:Str->Option Value):Prop where
  obj:h.get? x=some (PySem.W.instObj C dx)
  ns:h.Ns1 dx mA
  ne:dx ≠ x
theorem lookIn_ns {h:Heap} {dx:Addr} {mA:Str->Option Value} (n:h.Ns1 dx mA):∃ od,h.get? dx=some od/\∀ name,PySem.W.lookIn name od=some (mA name):=by
  obtain ⟨o,es,ep,ho,hd,hk,_,hm⟩:=n
  refine ⟨o,ho,fun name=>?_⟩
  have e:=hm name
  unfold nsFind findBy at e
  rw [<- Array.find?_toList] at e
  unfold PySem.W.lookIn
  rw [hd]
  dsimp only
  split
  · rename_i y q
    rw [q] at e
    exact congrArg some e
  · rename_i q
    rw [q] at e
    have a:es.toList.any (·.refKey)=false:=by
      rw [List.any_eq_false]
      intro y hy
      obtain ⟨z,t,hkey⟩:=hk y (Array.mem_toList_iff.mp hy)
      simp [DictEntry.refKey,hkey]
    have a':¬ es.toList.any (·.refKey)=true:=by rw [a]; exact Bool.false_ne_true
    rw [if_neg a']
    exact congrArg some e
theorem ObjM.look {h:Heap} {x dx C:Addr} {mA:Str->Option Value} (I:ObjM h x dx C mA):∃ od,PySem.W.InstAt h x (PySem.W.instObj C dx) C (some od)/\∀ name,PySem.W.lookIn name od=some (mA name):=
  let ⟨od,ho,hl⟩:=lookIn_ns I.ns
  ⟨od,⟨I.obj,rfl,rfl,ho⟩,hl⟩
section
variable {prog:Program} {w:World} {A:Around} {E:Value->Shared->Prop} {s:Shared} {K:PySem.W.Frag} {x dx C f:Addr} {mA:Str->Option Value} {name:Str} {v:Value}
end
section
variable {P:Program} {w:World} {H H':Hp} {h h':Heap} {a C dx:Addr} {fs fs':List (Str × V)}
theorem ins_get (hok:HOk P w H h) (e:H a=some (.ins C dx fs)):∃ mA,ObjM h a dx C mA/\(∀ f,RelO (fs.lookup f) (mA f))/\PySem.Within mA (fs.map (·.1))/\fs.length<=1000/\H dx=some (.own a):=by
  obtain ⟨d,z,ne,ob,mA,n,r,q⟩:=(show ObjOk P w H h a (.ins C dx fs) from hok a _ e)
  exact ⟨mA,⟨ob,n,ne⟩,r,q,z,d⟩
end
structure Cls (K:PySem.W.Frag) (C:Addr):Prop where
  pg:PySem.W.plainGet K C Str.empty=true
  hd:PySem.W.hasDictIn K C=true
  po:PySem.W.plainOver K C=true
  sa:PySem.W.findIn K (.ref C) "__setattr__" = some (some (.builtin "object.__setattr__"))
theorem Cls.get {K:PySem.W.Frag} {C:Addr} (c:Cls K C) (f:Str):PySem.W.plainGet K C f=true:=c.pg
section
variable {X:Cx} {pins:List (Addr × Obj)} {σ:St} {H:Hp} {s:Shared} {a C dx:Addr} {fs:List (Str × V)} {f:Str} {v:V} {A:Around} {E:Value->Shared->Prop}
end
section
variable {X:Cx} {o e value:Expr} {f:Str} {pos pos' tpos:Pos} {ta tv:TE}
end
section
variable {X:Cx} {pins:List (Addr × Obj)} {σ:St} {H:Hp} {s:Shared} {A:Around} {E:Value->Shared->Prop} {Q:Value->Shared->Prop} {c:Value} {b:Bool}
inductive TyOf (K:PySem.W.Frag) (H:Hp):V->Value->Prop where
  | non:TyOf K H .non (.type "NoneType")
  | bl (x:Bool):TyOf K H (.bl x) (.type "bool")
  | int (i:Int):TyOf K H (.int i) (.type "int")
  | str (x:Str):TyOf K H (.str x) (.type "str")
  | flt (x:UInt64):TyOf K H (.flt x) (.type "float")
  | lst {a:Addr} {xs:List V} (e:H a=some (.lst xs)):TyOf K H (.ref a) (.type "list")
  | frz {a:Addr} {o:Obj} {xs:List V} (e:H a=some (.frz o (.lst xs))):TyOf K H (.ref a) (.type "list")
  | tup {a:Addr} {xs:List V} (e:H a=some (.tup xs)):TyOf K H (.ref a) (.type "tuple")
  | dK {a:Addr} {kvs:List (Key × V)} (e:H a=some (.dK kvs)):TyOf K H (.ref a) (.type "dict")
  | dT {a:Addr} {kvs:List (List Key × V)} (e:H a=some (.dT kvs)):TyOf K H (.ref a) (.type "dict")
  | ins {a C dx:Addr} {fs:List (Str × V)} (e:H a=some (.ins C dx fs)) (cl:Cls K C) (ha:PySem.W.findIn K (.ref C) "__class__" = some (some (.builtin "object.__class__")))
      (hn:PySem.W.specialIn K (.builtin "object.__class__") "__get__" = some (some (.builtin "getset_descriptor.__get__"))) (htk:PySem.W.takesIn K (.builtin "object.__class__")=some true)
      (hm:PySem.W.mroIn K C (.type "object")=some true):TyOf K H (.ref a) (.ref C)
theorem isinst_ok {x:V} {u t:Value} (I:Inv X pins σ H s) (rx:RelV x u) (ty:TyOf X.K H x t) (e:PySem.W.kitOne X.K t c=some b) (h:∀ tk,Q (.bool b) { s with toks:=tk }) :
    wpAny (model X.prog X.w) A (call (.builtin "isinstance") [u,c]) Q E s:=by
  cases ty with
  | non=>cases (show u=Value.none from rx); exact PySem.W.kia_one PySem.W.kitx_none I.kIn True.intro e (fun z=>nomatch z) h
  | bl y=>cases (show u=Value.bool y from rx); exact PySem.W.kia_one PySem.W.kitx_bool I.kIn True.intro e (fun z=>nomatch z) h
  | int i=>obtain ⟨t,q⟩:=(show ∃ t,u=Value.int i t from rx); cases q; exact PySem.W.kia_one PySem.W.kitx_int I.kIn True.intro e (fun z=>nomatch z) h
  | str y=>obtain ⟨t,q⟩:=(show ∃ t,u=Value.str y t from rx); cases q; exact PySem.W.kia_one PySem.W.kitx_str I.kIn True.intro e (fun z=>nomatch z) h
  | flt y=>obtain ⟨t,q⟩:=(show ∃ t,u=Value.float y t from rx); cases q; exact PySem.W.kia_one PySem.W.kitx_float I.kIn True.intro e (fun z=>nomatch z) h
  | @lst a xs ea=>
    cases (show u=Value.ref a from rx)
    obtain ⟨_,_,n,_,h1⟩:=(show ObjOk X.prog X.w H s.heap a (.lst xs) from I.hok a _ ea)
    exact PySem.W.kia_one PySem.W.kitx_list I.kIn ⟨_,h1,rfl⟩ e (fun z=>nomatch z) h
  | @frz a ob xs ea=>
    cases (show u=Value.ref a from rx)
    obtain ⟨_,_,_,n,_,h1⟩:=(show ObjOk X.prog X.w H s.heap a (.frz ob (.lst xs)) from I.hok a _ ea)
    exact PySem.W.kia_one PySem.W.kitx_list I.kIn ⟨_,h1,rfl⟩ e (fun z=>nomatch z) h
  | @tup a xs ea=>
    cases (show u=Value.ref a from rx)
    obtain ⟨_,_,_,p⟩:=(show ObjOk X.prog X.w H s.heap a (.tup xs) from I.hok a _ ea)
    obtain ⟨o,h1,h2,_⟩:=p
    exact PySem.W.kia_one PySem.W.kitx_tuple I.kIn ⟨o,h1,h2⟩ e (fun z=>nomatch z) h
  | @dK a kvs ea=>
    cases (show u=Value.ref a from rx)
    obtain ⟨_,_,vs,_,p⟩:=(show ObjOk X.prog X.w H s.heap a (.dK kvs) from I.hok a _ ea)
    obtain ⟨o,es,ep,h1,h2,_⟩:=p
    exact PySem.W.kia_one PySem.W.kitx_dict I.kIn ⟨o,h1,h2.1⟩ e (fun z=>nomatch z) h
  | @dT a kvs ea=>
    cases (show u=Value.ref a from rx)
    obtain ⟨_,_,xs,_,o,es,ep,h1,h2,_⟩:=(show ObjOk X.prog X.w H s.heap a (.dT kvs) from I.hok a _ ea)
    exact PySem.W.kia_one PySem.W.kitx_dict I.kIn ⟨o,h1,h2.1⟩ e (fun z=>nomatch z) h
  | @ins a C dx fs ea cl ha hn htk hm=>
    cases (show u=Value.ref a from rx)
    obtain ⟨mA,O,_⟩:=ins_get I.hok ea
    obtain ⟨od,J,_⟩:=O.look
    exact PySem.W.kia_one (PySem.W.kitx_own (cl.get _) cl.hd ha hn htk hm) I.kIn J e (fun z=>nomatch z) h
end
end L2
namespace L2
open PySem PySem.Spec PyProof.Rows
structure Room (k:Nat) (A:Around):Prop where
  hd:A.handled=none
  dp:A.depth + 3 * k + 5 < recursionLimit
  un:A.units + 16 * k + 200 < cLine
theorem Room.mono {j k:Nat} {A:Around} (r:Room k A) (h:j<=k):Room j A:=⟨r.hd,by have:=r.dp; omega,by have:=r.un; omega⟩
theorem Room.deeper {k:Nat} {A:Around} (r:Room (k + 1) A) (env:Env):Room k (A.deeper env):=
  ⟨r.hd,by have:=r.dp; show A.depth + 1 + 3 * k + 5 < _; omega,by have:=r.un; show A.units + 3 + 16 * k + 200 < _; omega⟩
theorem Room.depth {k:Nat} {A:Around} (r:Room k A):A.depth < recursionLimit:=by have:=r.dp; omega
theorem Room.units {k:Nat} {A:Around} (r:Room k A):A.units + 64 < cLine:=by have:=r.un; omega
def tNil:TA:=fun _ H Q=>Q [] H
def tCons (ta:TE) (tr:TA):TA:=fun σ H Q=>ta σ H fun x H1=>tr σ H1 fun xs H2=>Q (x :: xs) H2
section
variable {X:Cx} {e:Expr} {es:List Expr} {te:TE} {t:TA} {pos:Pos}
theorem pa_nil:PA X [] tNil:=fun _ _ _ _ H Q I h=>Calls.spliced_nil ⟨[],H,I,.nil,h⟩
theorem pa_cons (ha:PE X e te) (hr:PA X es t) (hs:starEach (e :: es) X.env=(false,eval e X.env) :: starEach es X.env:=by rfl):PA X (e :: es) (tCons te t):=by
  intro pos pins s σ H Q I h
  rw [hs]
  show wpAny _ _ (spliced ((false,eval e X.env) :: backTo pos (starEach es X.env))) _ _ s
  refine Calls.spliced_cons (thn (ha pins s σ H _ I h) fun u s1 ⟨x,H1,I1,r1,q1⟩=>?_)
  exact thn (hr pos pins s1 σ H1 _ I1 q1) fun us s2 ⟨xs,H2,I2,r2,q2⟩=>⟨x :: xs,H2,I2,.cons r1 r2,q2⟩
def tTup (t:TA):TE:=fun σ H Q=>t σ H fun xs H1=>xs.length<=sizeLine/\∀ p,H1 p=none->Q (.ref p) (upd H1 p (.tup xs))
def tLst (t:TA):TE:=fun σ H Q=>t σ H fun xs H1=>xs.length<=sizeLine/\∀ p,H1 p=none->Q (.ref p) (upd H1 p (.lst xs))
theorem pe_tup {x1} (h:PA X es t):PE X (.Tuple es x1 pos) (tTup t):=by
  intro pins s σ H Q I hq
  refine wpAny_Tuple_spliced (thn (h pos pins s σ H _ I hq) fun us s1 ⟨xs,H1,I1,r,z,q⟩=>⟨by rw [<- r.length]; exact z,?_⟩)
  have hf:H1 s1.heap.objs.size=none:=I1.hok.fresh (Nat.le_refl _)
  refine ⟨.ref s1.heap.objs.size,upd H1 s1.heap.objs.size (.tup xs),I1.laid (t':=s1.toks) (fun b u e=>Heap.get?_push_of_some _ e) (Nat.le_refl _) ?_,rfl,q _ hf⟩
  exact ⟨z,us,r,⟨_,Heap.get?_push_size _ rfl,rfl,_,rfl⟩⟩
theorem pe_lst (h:PA X es t):PE X (.List es pos) (tLst t):=by
  intro pins s σ H Q I hq
  refine wpAny_List_spliced (thn (h pos pins s σ H _ I hq) fun us s1 ⟨xs,H1,I1,r,z,q⟩=>⟨by rw [<- r.length]; exact z,?_⟩)
  have hf:H1 s1.heap.objs.size=none:=I1.hok.fresh (Nat.le_refl _)
  refine ⟨.ref s1.heap.objs.size,upd H1 s1.heap.objs.size (.lst xs),I1.laid (t':=s1.toks) (fun b u e=>Heap.get?_push_of_some _ e) (Nat.le_refl _) ?_,rfl,q _ hf⟩
  exact ⟨z,us,0,r,Heap.get?_push_size _ rfl⟩
end
abbrev Sp:=List V->Hp->VK->XK->Prop
abbrev CXT:=List Env->Hp->Shared->XK->Value->Shared->Prop
structure Env0 (P:Program) (w:World) (K:PySem.W.Frag) (mg:Str->Option Value) (base:Heap) (A:Around) (outer:List Env) (s:Shared) (H:Hp):Prop where
  frames:A.frames=some outer
  mod:Mod K mg base
  bs:∀ b o,base.get? b=some o->s.heap.get? b=some o/\H b=none
  bsz:base.objs.size<=s.heap.objs.size
  funs:s.heap.FunFrames base outer
  frf:∀ b ∈ frs outer,H b=none
  hok:HOk P w H s.heap
  bare:AllBare s.gens
def CE (outer:List Env) (P:Program) (w:World) (H:Hp) (s:Shared) (Q:VK) (u:Value) (s':Shared):Prop:=
  ∃ v H',s'.os=s.os/\AllBare s'.gens/\Un (frs outer) [] H H' s.heap s'.heap/\HOk P w H' s'.heap/\RelV v u/\Q v H'
def CR (CX:CXT) (outer:List Env) (P:Program) (w:World) (H:Hp) (s:Shared) (Q:VK) (E:XK) (r:Result) (s':Shared):Prop:=
  match r with
  | .ok (.ret u)=>CE outer P w H s Q u s'
  | .ok _=>False
  | .error e=>CX outer H s E e s'
structure FnOk (P:Program) (w:World) (K:PySem.W.Frag) (mg:Str->Option Value) (base:Heap) (CX:CXT) (k:Nat) (f:Addr) (fd:FuncData) (ps:List Str) (sp:Sp):Prop where
  len:∀ vs H Q E,sp vs H Q E->vs.length=ps.length
  run:∀ (A:Around) (outer:List Env) (s:Shared) (H:Hp) (args:Args) (us:List Value) (vs:List V) (Q:VK) (E:XK),Room k A->Env0 P w K mg base A outer s H->BindsTo s fd args (ps.zip us)->Vals vs us->sp vs H Q E ->
    codeAny (model P w) A (.call (.ref f) args) (CR CX outer P w H s Q E) s
theorem FnOk.imp {P:Program} {w:World} {K:PySem.W.Frag} {mg:Str->Option Value} {base:Heap} {CX:CXT} {k:Nat} {f:Addr} {fd:FuncData} {ps:List Str} {sp sp':Sp} (F:FnOk P w K mg base CX k f fd ps sp)
    (h:∀ vs H Q E,sp' vs H Q E->sp vs H Q E):FnOk P w K mg base CX k f fd ps sp':=
  ⟨fun vs H Q E q=>F.len vs H Q E (h _ _ _ _ q),fun A outer s H args us vs Q E hr he hb hv hs=>F.run A outer s H args us vs Q E hr he hb hv (h _ _ _ _ hs)⟩
section
variable {X:Cx} {pins:List (Addr × Obj)} {σ:St} {H:Hp} {s s':Shared}
theorem Inv.env0 (I:Inv X pins σ H s):Env0 X.prog X.w X.K X.mg X.base X.A X.stack s H:=
  ⟨I.ok.frames,I.ok.mod,I.bs,Nat.le_trans I.ok.bsz I.sz,I.stack,I.stkFree,I.hok,I.bare⟩
theorem Inv.after {Q:VK} {u:Value} (I:Inv X pins σ H s) (h:CE X.stack X.prog X.w H s Q u s'):EP X pins σ Q u s':=by
  obtain ⟨v,H',os,bare,un,hok,r,q⟩:=h
  obtain ⟨hh,g,d,t,os'⟩:=s'
  obtain rfl:os'=s.os:=os
  exact ⟨v,H',I.call (h':=hh) (g':=g) (d':=d) (t':=t) (ch:=[]) un hok bare (fun b z=>absurd z (by simp)),r,q⟩
end
def tCall (sp:Sp) (dvs:List V) (E:XK) (t:TA):TE:=fun σ H Q=>t σ H fun vs H1=>sp (vs ++ dvs) H1 Q E
def Binds (K:PySem.W.Frag) (fd:FuncData) (ps:List Str) (ds:List Value):Prop:=
  ∀ (s:Shared) (us:List Value),K.In s.heap->(us ++ ds).length=ps.length->BindsTo s fd ⟨us,[]⟩ (ps.zip (us ++ ds))
theorem Binds.all {K:PySem.W.Frag} {fd:FuncData} {ps:List Str} (h:∀ us:List Value,us.length=ps.length->bindArgs fd ⟨us,[]⟩=pure (ps.zip us)):Binds K fd ps []:=fun s us _ hl=>by
  rw [List.append_nil] at hl ⊢
  exact .of_eq (h us hl)
def Passes (CX:CXT) (X:Cx) (E:XK):Prop:=∀ (pins:List (Addr × Obj)) (σ:St) (H:Hp) (s:Shared) (e:Value) (s':Shared),Inv X pins σ H s->CX X.stack H s E e s'->X.xe e s'
section
variable {X:Cx} {CX:CXT} {k:Nat} {f C:Addr} {fd:FuncData} {ps:List Str} {sp:Sp} {dvs:List V} {ds:List Value} {E:XK} {x m:Str} {p pos apos:Pos} {e o:Expr} {es:List Expr} {ta:TE} {t:TA}
theorem run_fn {pins:List (Addr × Obj)} {σ:St} {H:Hp} {s:Shared} {Q:VK} {us:List Value} {vs:List V} (F:FnOk X.prog X.w X.K X.mg X.base CX k f fd ps sp) (hr:Room k X.A) (hb:Binds X.K fd ps ds) (hd:Vals dvs ds) (hx:Passes CX X E)
    (I:Inv X pins σ H s) (r:Vals vs us) (h:sp (vs ++ dvs) H Q E):wpAny (model X.prog X.w) X.A (call (.ref f) us) (EP X pins σ Q) X.xe s:=by
  have r2:Vals (vs ++ dvs) (us ++ ds):=r.append hd
  have hl:(us ++ ds).length=ps.length:=by rw [<- r2.length]; exact F.len _ _ _ _ h
  refine wpAny_call (codeAny_mono (F.run X.A X.stack s H ⟨us,[]⟩ (us ++ ds) (vs ++ dvs) Q E hr I.env0 (hb s us I.kIn hl) r2 h) fun r s' hq=>?_)
  cases r with
  | error e=>exact hx pins σ H s e s' I hq
  | ok fl=>
    cases fl with
    | ret u=>exact I.after hq
    | next=>exact False.elim hq
    | brk=>exact False.elim hq
    | cont=>exact False.elim hq
theorem pe_call (F:FnOk X.prog X.w X.K X.mg X.base CX k f fd ps sp) (hr:Room k X.A) (hg:Gl X x) (hm:X.mg x=some (.ref f)) (hk:PySem.W.keepIn X.K (.ref f)=true) (hb:Binds X.K fd ps ds) (hd:Vals dvs ds) (hx:Passes CX X E)
    (ha:PA X (e :: es) t) (hdb:(x == ("__debug__" : Str))=false:=by decide) (he:starEach (e :: es) X.env=(false,eval e X.env) :: starEach es X.env:=by rfl) (hpl:(backTo pos (starEach es X.env)).any (·.1)=false:=by rfl) :
    PE X (.Call (.Name x p) (e :: es) [] pos) (tCall sp dvs E t):=by
  intro pins s σ H Q I h
  refine wpAny_Call_Name_kw (ld_glob I hg hm ?_ hdb)
  refine PySem.W.callWith_K (h₀:=X.base) I.ok.mod.kin hk (thn (ha pos pins s σ H _ I h) fun us s1 ⟨vs,H1,I1,r,q⟩=>⟨I1.kIn,?_⟩) he hpl
  exact run_fn F hr hb hd hx I1 r q
end
section
variable {X:Cx} {CX:CXT} {k:Nat} {f C:Addr} {fd:FuncData} {ps ks:List Str} {sp:Sp} {E:XK} {x m:Str} {p pos apos kpos:Pos} {e o:Expr} {es:List Expr} {kws:List Keyword} {te ta:TE} {t tk:TA} {nm:Option Str}
variable {g:List Value->List Value->List Value} {gV:List V->List V->List V}
end
structure FnScope (N P:List Str) (sc:Scope):Prop where
  kind:sc.kind=.function
  co:sc.isCoroutine=false
  gen:sc.isGenerator=false
  nd:N.Nodup
  pre:N.take P.length=P
  par:∀ x ∈ P,sc.names.lookup x=some .local\/sc.names.lookup x=some .cell
  nofree:∀ y ∈ sc.names,y.2 ≠ .free
theorem bindL_out {kindOf:Str->Option NameKind} {x:Str}:∀ {binds:List (Str × Value)} {m:Str->Option Value},(∀ v,(x,v) ∉ binds)->bindL kindOf binds m x=m x
  | [],_,_=>rfl
  | (n,v) :: r,m,h=>by
    unfold bindL
    rw [bindL_out fun w hw=>h w (List.mem_cons_of_mem _ hw)]
    split
    · have:x ≠ n:=by rintro rfl; exact h v List.mem_cons_self
      simp [this]
    · rfl
theorem bindC_out {kindOf:Str->Option NameKind} {x:Str}:∀ {binds:List (Str × Value)} {m:Str->Option Value},(∀ v,(x,v) ∉ binds)->bindC kindOf binds m x=m x
  | [],_,_=>rfl
  | (n,v) :: r,m,h=>by
    unfold bindC
    rw [bindC_out fun w hw=>h w (List.mem_cons_of_mem _ hw)]
    split
    · rfl
    · have:x ≠ n:=by rintro rfl; exact h v List.mem_cons_self
      simp [this]
theorem bindL_get {kindOf:Str->Option NameKind} {x:Str} {v:Value}:∀ {P:List Str} {vs:List Value} {i:Nat} {m:Str->Option Value},P.Nodup->P[i]?=some x->vs[i]?=some v->kindOf x=some .local ->
    bindL kindOf (P.zip vs) m x=some v
  | [],_,_,_,_,h,_,_=>by simp at h
  | _ :: _,[],_,_,_,_,h,_=>by simp at h
  | p :: P,w :: vs,0,m,nd,h1,h2,hk=>by
    simp at h1 h2; subst h1; subst h2
    show bindL kindOf ((p,w) :: P.zip vs) m p=_
    unfold bindL
    rw [bindL_out fun v hv=>(List.nodup_cons.mp nd).1 (List.of_mem_zip hv).1,if_pos hk]
    simp
  | p :: P,w :: vs,i + 1,m,nd,h1,h2,hk=>by
    show bindL kindOf ((p,w) :: P.zip vs) m x=_
    unfold bindL
    exact bindL_get (i:=i) (List.nodup_cons.mp nd).2 (by simpa using h1) (by simpa using h2) hk
theorem bindC_get {kindOf:Str->Option NameKind} {x:Str} {v:Value}:∀ {P:List Str} {vs:List Value} {i:Nat} {m:Str->Option Value},P.Nodup->P[i]?=some x->vs[i]?=some v->kindOf x ≠ some .local ->
    bindC kindOf (P.zip vs) m x=some v
  | [],_,_,_,_,h,_,_=>by simp at h
  | _ :: _,[],_,_,_,_,h,_=>by simp at h
  | p :: P,w :: vs,0,m,nd,h1,h2,hk=>by
    simp at h1 h2; subst h1; subst h2
    show bindC kindOf ((p,w) :: P.zip vs) m p=_
    unfold bindC
    rw [bindC_out fun v hv=>(List.nodup_cons.mp nd).1 (List.of_mem_zip hv).1,if_neg hk]
    simp
  | p :: P,w :: vs,i + 1,m,nd,h1,h2,hk=>by
    show bindC kindOf ((p,w) :: P.zip vs) m x=_
    unfold bindC
    exact bindC_get (i:=i) (List.nodup_cons.mp nd).2 (by simpa using h1) (by simpa using h2) hk
def start (N:List Str) (vs:List V):St:=vs.map some ++ List.replicate (N.length - vs.length) none
def cxOf (CX:CXT) (P:Program) (w:World) (K:PySem.W.Frag) (mg:Str->Option Value) (base:Heap) (N:List Str) (qual:Str) (scope:Scope) (f:Addr) (cd:Value) (A:Around) (outer:List Env) (s:Shared) (H:Hp) (E:XK):Cx where
  prog:=P
  w:=w
  K:=K
  mg:=mg
  base:=base
  A:=A.deeper (envOfC qual scope s.heap.objs.size f cd)
  N:=N
  s₀:=s
  H₀:=H
  env:=envOfC qual scope s.heap.objs.size f cd
  outer:=outer
  stack:=envOfC qual scope s.heap.objs.size f cd :: outer
  ex:=[]
  calm:=true
  fn:=fun _=>true
  pn:=[]
  xe:=fun e s'=>wpAny (model P w) (A.deeper (envOfC qual scope s.heap.objs.size f cd)) (leaving (envOfC qual scope s.heap.objs.size f cd) e) (fun _ s''=>CX outer H s E e s'') (fun e' s''=>CX outer H s E e' s'') s'
theorem cell_has {sc:Scope} {n:Nat} {x:Str} (h:sc.names.lookup x=some .cell):∃ c,(cellsFrom n sc.names []).lookup x=some c:=by
  have q:=PySem.W.cellsFrom_some sc.names n [] (.inl h)
  exact Option.isSome_iff_exists.mp q
theorem inv_start {CX:CXT} {P:Program} {w:World} {K:PySem.W.Frag} {mg:Str->Option Value} {base:Heap} {N ps:List Str} {qual:Str} {scope:Scope} {f:Addr} {cd:Value} {A:Around} {outer:List Env} {s s1:Shared} {H:Hp} {E:XK} {us:List Value} {vs:List V}
    (S:FnScope N ps scope) (hd:A.handled=none) (e0:Env0 P w K mg base A outer s H) (hl:vs.length=ps.length) (r:Vals vs us)
    (x:InCallC s s.heap.objs.size (bindL (envOfC qual scope s.heap.objs.size f cd).kindOf (ps.zip us) fun _=>none) (cellsFrom (s.heap.objs.size + 1) scope.names []) (bindC (envOfC qual scope s.heap.objs.size f cd).kindOf (ps.zip us) fun _=>none) s1) :
    Inv (cxOf CX P w K mg base N qual scope f cd A outer s H E) [] (start N vs) H s1:=by
  have hpl:ps.length<=N.length:=by have:=congrArg List.length S.pre; rw [List.length_take] at this; omega
  obtain ⟨h1,tk,rfl,hk⟩:=x.done
  have noA:∀ b:Addr,b ∉ (cxOf CX P w K mg base N qual scope f cd A outer s H E).ex:=fun b z=>absurd (show b ∈ ([]:List Addr) from z) (by simp)
  refine ⟨⟨e0.mod,S.kind,rfl,rfl,Nat.le_refl _,fun y z c h1 h2=>?_,fun y hy=>?_,fun y c _ h=>?_,fun _=>hd,Around.frames_deeper e0.frames,.inr ⟨rfl,rfl⟩,fun b z=>absurd z (noA b),e0.bs,e0.bsz,fun b _ _=>noA b,fun b z=>absurd z (noA b),e0.funs,e0.frf⟩,
    rfl,e0.bare,Un.kept hk,⟨_,x.toInCall.ns,fun i y v h1 h2 h3=>?_⟩,fun y c h=>⟨_,x.cell y c h⟩,e0.hok.fresh (Nat.le_refl _),fun y c h=>?_,fun p hp=>absurd (show p ∈ ([]:List (Addr × Obj)) from hp) (by simp),e0.hok.kept hk,?_⟩
  · exact name_of_addr x.apart (PySem.mem_of_lookup h1) (PySem.mem_of_lookup h2)
  · have hy:scope.names.lookup y=some .cell\/scope.names.lookup y=some .free:=hy
    rcases hy with hy | hy
    · exact cell_has hy
    · exact absurd rfl (S.nofree _ (PySem.mem_of_lookup hy))
  · exact Nat.le_of_lt (x.above y c (PySem.mem_of_lookup h))
  · have hi:i < vs.length:=by
      unfold start at h2
      by_cases hi:i < vs.length
      · exact hi
      · rw [List.getElem?_append_right (by simpa using hi)] at h2
        rw [List.getElem?_replicate] at h2
        split at h2 <;> cases h2
    have ha:vs[i]?=some v:=by
      unfold start at h2
      rw [List.getElem?_append_left (by simpa using hi),List.getElem?_map] at h2
      cases e:vs[i]? with
      | none=>rw [e] at h2; cases h2
      | some a=>rw [e] at h2; cases h2; rfl
    obtain ⟨u,hu,rv⟩:=r.get ha
    have hp:ps[i]?=some y:=by
      rw [<- S.pre,List.getElem?_take_of_lt (by omega)]; exact h1
    have ndP:ps.Nodup:=by rw [<- S.pre]; exact S.nd.sublist (List.take_sublist _ _)
    refine ⟨u,rv,?_⟩
    rcases S.par y (List.mem_of_getElem? hp) with k | k
    · exact .inl ⟨k,bindL_get ndP hp hu k⟩
    · obtain ⟨c,e⟩:=cell_has (n:=s.heap.objs.size + 1) k
      refine .inr ⟨.inl k,c,e,?_⟩
      have q:=x.cell y c e
      rw [bindC_get ndP hp hu (by show scope.names.lookup y ≠ _; rw [k]; decide)] at q
      exact q
  · exact e0.hok.fresh (Nat.le_of_lt (x.above y c (PySem.mem_of_lookup h)))
  · unfold start
    show _=N.length
    rw [List.length_append,List.length_map,List.length_replicate]
    omega
theorem fn_of {CX:CXT} {P:Program} {w:World} {K:PySem.W.Frag} {mg:Str->Option Value} {base:Heap} {k:Nat} {f:Addr} {name qual:Str} {params:Arguments} {body:List Stmt} {scope:Scope} {dV kV doc pm cdv ct oc:Value} {an od:Option Addr}
    {osl:Array (Option Value)} {N ps:List Str} {sp:Sp} (lk:K.lookup f=some ⟨oc,od,.func (PySem.W.fnOf name qual params body scope dV kV doc pm an cdv ct),osl⟩) (hcd:PySem.W.codeIn K cdv qual=true) (S:FnScope N ps scope)
    (len:∀ vs H Q E,sp vs H Q E->vs.length=ps.length)
    (hbody:∀ (A:Around) (outer:List Env) (s:Shared) (H:Hp) (vs:List V) (Q:VK) (E:XK),Room k (A.deeper (envOfC qual scope s.heap.objs.size f cdv))->sp vs H Q E ->
      ∃ t,PSs (cxOf CX P w K mg base N qual scope f cdv A outer s H E) body t/\t { nx:=fun _ H'=>Q .non H',rt:=Q } (start N vs) H) :
    FnOk P w K mg base CX (k + 1) f (PySem.W.fnOf name qual params body scope dV kV doc pm an cdv ct) ps sp:=by
  refine ⟨len,fun A outer s H args us vs Q E hr e0 hb r hsp=>?_⟩
  have hl:=len _ _ _ _ hsp
  have KX:K.In s.heap:=e0.mod.kin.keeps fun b o e=>(e0.bs b o e).1
  have lim:s.heap.NoLimit:=e0.mod.nolimit.keeps fun b o e=>(e0.bs b o e).1
  have hkind:∀ y ∈ ps.zip us,scope.names.lookup y.1=some .local\/(scope.names.lookup y.1=some .cell/\((cellsFrom (s.heap.objs.size + 1) scope.names []).lookup y.1).isSome=true):=fun ⟨n,v⟩ hy=>by
    rcases S.par n (List.of_mem_zip hy).1 with q | q
    · exact .inl q
    · exact .inr ⟨q,PySem.W.cellsFrom_some _ _ _ (.inl q)⟩
  refine codeAny_call_function hr.depth (KX _ _ lk) rfl S.co S.gen rfl (PySem.W.codeRec_of KX hcd) (hb _ _ _ _ ?_)
  refine wpAny_newFunctionEnv_cells S.kind hkind fun env he s1 x=>?_
  subst he
  refine ⟨lim.keeps x.toInCall.keep,codeAny_func ?_⟩
  obtain ⟨t,ht,hq⟩:=hbody A outer s H vs Q E (hr.deeper _) hsp
  have I:Inv (cxOf CX P w K mg base N qual scope f cdv A outer s H E) [] (start N vs) H s1:=inv_start S hr.hd e0 hl r x
  refine wpAny_mono (ht [] s1 (start N vs) H _ I hq) (fun fl s' hs=>?_) fun e s' hs=>hs
  have fin:∀ {σ':St} {H':Hp} {v:V} {u:Value},Inv (cxOf CX P w K mg base N qual scope f cdv A outer s H E) [] σ' H' s'->RelV v u->Q v H'->CE outer P w H s Q u s':=
    fun {σ' H' v u} J rv q=>⟨v,H',J.os,J.bare,J.base,J.hok,rv,q⟩
  cases fl with
  | ret u=>
    obtain ⟨v,σ',H',J,rv,q⟩:=hs
    exact fin J rv q
  | next=>
    obtain ⟨σ',H',J,q⟩:=hs
    exact fin (v:=V.non) (u:=Value.none) J rfl q
  | brk=>
    obtain ⟨_,_,_,q⟩:=hs
    exact False.elim q
  | cont=>
    obtain ⟨_,_,_,q⟩:=hs
    exact False.elim q
end L2
namespace L2
open PySem PySem.Spec PyProof.Rows
section
variable {X:Cx} {x:Str} {p pos:Pos} {e:Expr} {es:List Expr} {t:TA} {id T:String} {r:List V->Hp->VK->Prop}
def tCB (r:List V->Hp->VK->Prop) (t:TA):TE:=fun σ H Q=>t σ H fun vs H1=>r vs H1 Q
theorem pe_callB (hc:CallR X (.builtin id) r) (hg:Gl X x) (hm:X.mg x=none) (hv:bootBuiltins x=some (.builtin id)) (ha:PA X (e :: es) t) (hn:x ≠ "__name__" := by decide) (hdb:(x == ("__debug__" : Str))=false:=by decide)
    (he:starEach (e :: es) X.env=(false,eval e X.env) :: starEach es X.env:=by rfl) (hpl:(backTo pos (starEach es X.env)).any (·.1)=false:=by rfl):PE X (.Call (.Name x p) (e :: es) [] pos) (tCB r t):=by
  intro pins s σ H Q I h
  refine wpAny_Call_Name_kw (ld_blt I hg hm hv ?_ hn hdb)
  exact PyProof.Rows.callWith_builtin1 (thn (ha pos pins s σ H _ I h) fun us s1 ⟨vs,H1,I1,r1,q1⟩=>hc pins s1 σ H1 vs us Q I1 r1 q1) he hpl
theorem pe_callTy (hc:CallR X (.type T) r) (hg:Gl X x) (hm:X.mg x=none) (hv:bootBuiltins x=some (.type T)) (ha:PA X (e :: es) t) (hn:x ≠ "__name__" := by decide) (hdb:(x == ("__debug__" : Str))=false:=by decide)
    (he:starEach (e :: es) X.env=(false,eval e X.env) :: starEach es X.env:=by rfl) (hpl:(backTo pos (starEach es X.env)).any (·.1)=false:=by rfl):PE X (.Call (.Name x p) (e :: es) [] pos) (tCB r t):=by
  intro pins s σ H Q I h
  refine wpAny_Call_Name_kw (ld_blt I hg hm hv ?_ hn hdb)
  exact PyProof.Rows.callWith_type1 (thn (ha pos pins s σ H _ I h) fun us s1 ⟨vs,H1,I1,r1,q1⟩=>hc pins s1 σ H1 vs us Q I1 r1 q1) he hpl
end
end L2
namespace HT
open PySem PyProof.Rows
def lexLt:List Int->List Int->Bool
  | [],[]=>false
  | [],_ :: _=>true
  | _ :: _,[]=>false
  | x :: xs,y :: ys=>if x=y then lexLt xs ys else decide (x < y)
theorem lexLt_cons (x y:Int) (xs ys:List Int):lexLt (x :: xs) (y :: ys)=if x=y then lexLt xs ys else decide (x < y):=rfl
theorem lexLt_nil_nil:lexLt [] []=false:=rfl
theorem lexLt_nil_cons (y:Int) (ys:List Int):lexLt [] (y :: ys)=true:=rfl
theorem lexLt_cons_nil (x:Int) (xs:List Int):lexLt (x :: xs) []=false:=rfl
theorem eqAt_int (A:Around) (s:Shared) (a:Int) (t:Tok) (c:Int) (u:Tok):∃ e,SeqAt.EqAt A s (.int a t) (.int c u) e/\(e=true <-> a=c):=
  ⟨(a == c),SeqAt.EqAt.int_int a t c u,by simp⟩
theorem rcLt_int (A:Around) (s:Shared) (a:Int) (t:Tok) (c:Int) (u:Tok) (prog:Program) (w:World) (E:Value->Shared->Prop) (Q:Value->Shared->Prop) (h:Q (.bool (decide (a < c))) s) :
    wpAny (model prog w) A (richCompare .Lt (.int a t) (.int c u)) Q E s:=
  (PyProof.Rows.lt_int h:wpAny (model prog w) A (compareOp .Lt (.int a t) (.int c u)) Q E s)
section
open PySem.SeqAt
open PySem.AutoSeq1 (wpAny_loadPart')
open PySem.MeetsSeq PySem.MeetsSeq2 PySem.MeetsSeq3
theorem tuple_lt_ints (l b:Addr) (items items2:Array Value) (n n2:Nat) (dd dd2:Option Addr) (sl sl2:Array (Option Value)) (ns ms:List Int) (hi:IntsAre items.toList ns) (hj:IntsAre items2.toList ms) :
    Meets (Builtin.«tuple.__lt__» ⟨[.ref l,.ref b],[]⟩)
      (fun _ R s=>s.heap.get? l=some { cls:=.type "tuple",dict:=dd,data:=.seq items n,slots:=sl }/\s.heap.get? b=some { cls:=.type "tuple",dict:=dd2,data:=.seq items2 n2,slots:=sl2 } /\
        R (.ok (.ret (.bool (lexLt ns ms)))) s):=
  .of_wp fun prog w A R s h=>by
    obtain ⟨hp,g,d,tk,os⟩:=s; obtain ⟨hl,hb,h⟩:=h
    have f2:=AutoSeq1.sub_tuple_tuple
    have z1:items.size=ns.length:=by rw [<- hi.length]; simp
    have z2:items2.size=ms.length:=by rw [<- hj.length]; simp
    wp_walk using wpAny_loadPart' hl,wpAny_loadPart' hb,wpAny_forIn_list _ (fun rest b s'=>b.1=none/\s'=⟨hp,g,d,tk,os⟩/\∃ (vs ws:List Value) (ns' ms':List Int),rest=vs.zip ws /\
      IntsAre vs ns'/\IntsAre ws ms'/\ns'.length + items2.size=ms'.length + items.size/\R (.ok (.ret (.bool (lexLt ns' ms')))) ⟨hp,g,d,tk,os⟩) _
    case turn=>
      rintro ⟨y,x⟩ rest b s' ⟨hb',rfl,vs,ws,ns',ms',hz,hvi,hwi,hlen,hR⟩
      cases hvi with
      | nil=>rw [List.zip_nil_left] at hz; cases hz
      | cons a t hvi'=>
        cases hwi with
        | nil=>rw [List.zip_nil_right] at hz; cases hz
        | cons c u hwi'=>
          rw [List.zip_cons_cons] at hz
          injection hz with hyx hrest
          injection hyx with hy hx
          subst hy hx
          rw [lexLt_cons] at hR
          simp only [List.length_cons] at hlen
          obtain ⟨e,he,hiff⟩:=eqAt_int A.in1 ⟨hp,g,d,tk,os⟩ a t c u
          refine wpAny_bind (he prog w _ _ ?_)
          cases e with
          | true=>
            rw [if_pos (hiff.mp rfl)] at hR
            wp_walk
            exact ⟨rfl,rfl,_,_,_,_,hrest,hvi',hwi',by omega,hR⟩
          | false=>
            rw [if_neg (fun q=>absurd (hiff.mpr q) Bool.false_ne_true)] at hR
            have hri:=rcLt_int A.in1 ⟨hp,g,d,tk,os⟩ a t c u prog w
            wp_walk using hri
            exact ⟨_,rfl,by simpa using hR⟩
    case fin=>
      rintro ⟨b1,b2⟩ s' ⟨hb',rfl,vs,ws,ns',ms',hz,hvi,hwi,hlen,hR⟩
      simp only at hb'
      subst hb'
      have hv:lexLt ns' ms'=decide (items.size < items2.size):=by
        cases hvi with
        | nil=>
          cases hwi with
          | nil=>
            simp only [List.length_nil] at hlen
            rw [lexLt_nil_nil]
            exact (decide_eq_false (by omega)).symm
          | cons c u hw=>
            simp only [List.length_nil,List.length_cons] at hlen
            rw [lexLt_nil_cons]
            exact (decide_eq_true (by omega)).symm
        | cons a t hv=>
          cases hwi with
          | nil=>
            simp only [List.length_nil,List.length_cons] at hlen
            rw [lexLt_cons_nil]
            exact (decide_eq_false (by omega)).symm
          | cons c u hw=>
            rw [List.zip_cons_cons] at hz
            cases hz
      rw [hv] at hR
      wp_walk
      exact ⟨_,rfl,by simpa [Builtin.Tuple.tupleCompareSizes] using hR⟩
    case h=>
      exact ⟨rfl,rfl,items.toList,items2.toList,ns,ms,rfl,hi,hj,by omega,h⟩
end
section
variable {prog:Program} {w:World} {A:Around} {E:Value->Shared->Prop} {s:Shared}
theorem lt_tupInts {l b:Addr} {items items2:Array Value} {ns ms:List Int} {Q:Value->Shared->Prop} (hl:IsTup s.heap l items) (hb:IsTup s.heap b items2) (hi:IntsAre items.toList ns) (hj:IntsAre items2.toList ms)
    (hu:A.units < cLine) (h:Q (.bool (lexLt ns ms)) s):wpAny (model prog w) A (compareOp .Lt (.ref l) (.ref b)) Q E s:=by
  obtain ⟨⟨cls,dd,data,sl⟩,ho,hc,n,hd⟩:=id hl
  obtain ⟨⟨cls2,dd2,data2,sl2⟩,ho2,hc2,n2,hd2⟩:=id hb
  simp only at hc hd hc2 hd2
  subst hc hd hc2 hd2
  exact richCompare_meets_room (op:=.Lt) ⟨_,ho,rfl⟩ ⟨_,ho2,rfl⟩ PySem.F.slot_tuple_lt PySem.F.entry_tuple_lt (PySem.F.args_tuple_lt_2 _ _) (tuple_lt_ints l b items items2 n n2 dd dd2 sl sl2 ns ms hi hj)
    ⟨ho,ho2,show Value.bool (lexLt ns ms) ≠ Value.notImplemented/\Q (.bool (lexLt ns ms)) s from ⟨(fun x=>nomatch x),h⟩⟩ hu
theorem cat_tup {t b:Addr} {vs ws:List Value} {Q:Value->Shared->Prop} (ht:IsTup s.heap t vs.toArray) (hb:IsTup s.heap b ws.toArray) (hv:vs ≠ [])
    (h1:ws=[]->Q (.ref t) s) (h2:ws ≠ []->Q (.ref s.heap.objs.size) { s with heap:=s.heap.push { cls:=.type "tuple",data:=.seq (vs ++ ws).toArray } })
    (hsz:vs.length + ws.length<=sizeLine):wpAny (model prog w) A (binaryOp .Add (.ref t) (.ref b)) Q E s:=by
  obtain ⟨⟨cls,dd,data,sl⟩,ho,hc,n,hd⟩:=id ht
  obtain ⟨⟨cls2,dd2,data2,sl2⟩,ho2,hc2,n2,hd2⟩:=id hb
  simp only at hc hd hc2 hd2
  subst hc hd hc2 hd2
  have e:vs.toArray ++ ws.toArray=(vs ++ ws).toArray:=by simp
  by_cases hw:ws=[]
  · exact concat_meets ⟨_,ho,rfl⟩ ⟨_,ho2,rfl⟩ noFill_tuple_add seq_tuple_add PySem.F.slot_tuple_add PySem.F.entry_tuple_add (PySem.F.args_tuple_add_2 _ _)
      (tuple_addW1 t b vs.toArray ws.toArray n n2 dd dd2 sl sl2 (by simpa using hv) (by simp [hw])) ⟨ho,ho2,h1 hw⟩
  · refine concat_meets ⟨_,ho,rfl⟩ ⟨_,ho2,rfl⟩ noFill_tuple_add seq_tuple_add PySem.F.slot_tuple_add PySem.F.entry_tuple_add (PySem.F.args_tuple_add_2 _ _)
      (tuple_addW2 t b vs.toArray ws.toArray n n2 dd dd2 sl sl2 (by simpa using hv) (by simpa using hw) (by rw [List.size_toArray,List.size_toArray]; exact hsz)) ⟨ho,ho2,?_⟩
    rw [e]
    exact h2 hw
def sIx (n d:Nat):Option Int->Nat
  | none=>d
  | some v=>if v < 0 then (v + (n:Int)).toNat else min v.toNat n
theorem sIx_none (n d:Nat):sIx n d none=d:=rfl
theorem sIx_nat (n d k:Nat):sIx n d (some (k:Int))=min k n:=by
  show (if (k:Int) < 0 then ((k:Int) + (n:Int)).toNat else min (k:Int).toNat n)=min k n
  rw [if_neg (by omega),Int.toNat_natCast]
theorem sIx_le (n d:Nat) (hd:d<=n) (o:Option Int):sIx n d o<=n:=by
  cases o with
  | none=>exact hd
  | some v=>
    show (if v < 0 then (v + (n:Int)).toNat else min v.toNat n)<=n
    by_cases hv:v < 0
    · rw [if_pos hv]; omega
    · rw [if_neg hv]; exact Nat.min_le_right _ _
theorem clip_eq (v:Int) (n d:Nat):(if v < 0 then max (v + (n:Int)) 0 else min v (n:Int))=((sIx n d (some v):Nat):Int):=by
  show (if v < 0 then max (v + (n:Int)) 0 else min v (n:Int))=(((if v < 0 then (v + (n:Int)).toNat else min v.toNat n):Nat):Int)
  by_cases hv:v < 0
  · simp only [if_pos hv]; omega
  · simp only [if_neg hv]; omega
theorem adjust_gen (lo hi:Option Int) (n:Nat):Builtin.Slice.sliceAdjust lo hi 1 (n:Int)=(((sIx n 0 lo:Nat):Int),((sIx n n hi:Nat):Int)):=by
  have h1:¬ ((1:Int) < 0):=by omega
  unfold Builtin.Slice.sliceAdjust
  simp only [h1,if_false]
  refine Prod.ext ?_ ?_
  · cases lo with
    | none=>rfl
    | some v=>exact clip_eq v n 0
  · cases hi with
    | none=>rfl
    | some v=>exact clip_eq v n n
theorem places_gen (i j:Nat):Builtin.Slice.slicePlaces (i:Int) (j:Int) 1=j - i:=by
  unfold Builtin.Slice.slicePlaces
  have h1:(1:Int) > 0:=by omega
  simp only [h1,if_true,Int.ediv_one]
  split <;> omega
theorem slicePart_ {v:Value} {o:Option Int} {Q:Option Int->Shared->Prop} (p:IsPart v o) (h:Q o s):wpAny (model prog w) A (Builtin.Slice.slicePartIndex v) Q E s:=by
  cases p with
  | none=>exact slicePart_none h
  | int i t=>exact slicePart_int h
theorem sliceApplied_gen {sl:Addr} {vl vu:Value} {lo hi:Option Int} {n:Nat} {Q:Int × Int × Nat->Shared->Prop} (hs:s.heap.IsSliceOf sl vl vu .none) (pl:IsPart vl lo) (pu:IsPart vu hi)
    (h:Q (((sIx n 0 lo:Nat):Int),1,sIx n n hi - sIx n 0 lo) s):wpAny (model prog w) A (Builtin.Slice.sliceApplied (.ref sl) (pure (n:Int))) Q E s:=by
  obtain ⟨os,hos,hcs,hds⟩:=id hs
  unfold Builtin.Slice.sliceApplied Builtin.Slice.sliceFields
  refine wpAny_bind (wpAny_bind (wpAny_field hos hds (x:=vl) rfl (wpAny_bind (wpAny_field hos hds (x:=vu) rfl (wpAny_bind (wpAny_field hos hds (x:=.none) rfl (wpAny_pure ?_)))))))
  refine wpAny_bind (slicePart_none ?_)
  show wpAny _ _ (if ((1:Int) == 0)=true then _ else _) _ _ s
  rw [if_neg (by decide)]
  refine wpAny_bind (slicePart_ pl (wpAny_bind (slicePart_ pu (wpAny_bind (wpAny_pure ?_)))))
  show wpAny _ _ (match Builtin.Slice.sliceAdjust lo hi 1 (n:Int) with | (lo,hi)=>pure (lo,(1:Int),Builtin.Slice.slicePlaces lo hi 1)) _ _ s
  rw [adjust_gen lo hi n]
  show wpAny _ _ (pure (((sIx n 0 lo:Nat):Int),(1:Int),Builtin.Slice.slicePlaces ((sIx n 0 lo:Nat):Int) ((sIx n n hi:Nat):Int) 1)) _ _ s
  rw [places_gen]
  exact wpAny_pure h
theorem pick_gen (xs:Array Value) (i k:Nat):((List.range k).filterMap fun (m:Nat)=>xs[((i:Int) + (m:Int) * 1).toNat]?).toArray=((xs.toList.drop i).take k).toArray:=by
  have e:(fun (m:Nat)=>xs[((i:Int) + (m:Int) * 1).toNat]?)=fun m=>xs[i + m]?:=by
    funext m
    have:((i:Int) + (m:Int) * 1).toNat=i + m:=by omega
    rw [this]
  rw [e]
  have:=pick_run xs i k
  rw [List.filterMap_map] at this
  have e2:((fun x=>xs[x]?) ∘ fun x=>i + x)=fun m=>xs[i + m]?:=rfl
  rw [e2] at this
  rw [this]
theorem getItem_tuple_cut {t sl:Addr} {items:Array Value} {vl vu:Value} {lo hi:Option Int} {Q:Value->Shared->Prop} (ht:IsTup s.heap t items) (hs:s.heap.IsSliceOf sl vl vu .none) (pl:IsPart vl lo) (pu:IsPart vu hi)
    (hw:¬ (sIx items.size 0 lo=0/\sIx items.size items.size hi=items.size))
    (h:Q (.ref s.heap.objs.size) { s with heap:=s.heap.push { cls:=.type "tuple",data:=.seq ((items.toList.drop (sIx items.size 0 lo)).take (sIx items.size items.size hi - sIx items.size 0 lo)).toArray } })
    (hsz:items.size<=sizeLine):wpAny (model prog w) A (getItem (.ref t) (.ref sl)) Q E s:=by
  have htake:sizeOk (.seq ((items.toList.drop (sIx items.size 0 lo)).take (sIx items.size items.size hi - sIx items.size 0 lo)).toArray):=by
    show ((items.toList.drop (sIx items.size 0 lo)).take (sIx items.size items.size hi - sIx items.size 0 lo)).toArray.size<=sizeLine
    rw [List.size_toArray,List.length_take,List.length_drop,Array.length_toList]
    omega
  have hj:sIx items.size items.size hi<=items.size:=sIx_le _ _ (Nat.le_refl _) hi
  obtain ⟨os,hos,hcs,hds⟩:=id hs
  have hTs:s.TypeIs (.ref sl) "slice" := ⟨os,hos,hcs⟩
  unfold getItem
  try with_reducible refine wpAny_holding ?_
  first | refine wpAny_bind (wpAny_pure ?_) | skip
  refine wpAny_bind (wpAny_sequenceKey ht.typeIs (by decide) ?_)
  refine wpAny_bind (wpAny_callSpecial?_slot (name:=Str.ofString "__getitem__") ht.typeIs PyProof.Rows.slot_tuple_getitem
    (wpAny_call_entry PyProof.Rows.slot_tuple_getitem ht.typeIs entry_tuple_getitem ?_ (args_tuple_getitem _ _)))
  show wpAny _ _ (Builtin.Tuple.tupleItemsOf (.ref t) >>= _) _ _ s
  refine wpAny_bind (tupleItemsOf_ ht ?_)
  refine wpAny_bind (wpAny_typeOf hTs ?_)
  rw [if_pos (by decide)]
  refine wpAny_bind (sliceApplied_gen hs pl pu ?_)
  have hno:¬ ((((sIx items.size 0 lo:Nat):Int) == 0 && (1:Int) == 1 && (sIx items.size items.size hi - sIx items.size 0 lo) == items.size)=true):=by
    intro q
    rw [Bool.and_eq_true,Bool.and_eq_true] at q
    have q1:((sIx items.size 0 lo:Nat):Int)=0:=eq_of_beq q.1.1
    have q2:sIx items.size items.size hi - sIx items.size 0 lo=items.size:=eq_of_beq q.2
    exact hw ⟨by omega,by omega⟩
  show wpAny _ _ (if (((sIx items.size 0 lo:Nat):Int) == 0 && (1:Int) == 1 && (sIx items.size items.size hi - sIx items.size 0 lo) == items.size)=true then _ else _) _ _ s
  rw [if_neg hno,pick_gen]
  first
    | exact wpAny_bind (m:=Builtin.Tuple.tupleExact _) (wpAny_newObj_type (wpAny_pure ⟨_,rfl,wpAny_pure h⟩) htake)
    | exact wpAny_bind (m:=Builtin.Tuple.tupleExact _) (wpAny_newObj_type (wpAny_bind (wpAny_pure (wpAny_pure ⟨_,rfl,wpAny_pure h⟩))) htake)
    | exact wpAny_bind (wpAny_bind (m:=Builtin.Tuple.tupleExact _) (wpAny_newObj_type (wpAny_pure (wpAny_pure ⟨_,rfl,wpAny_pure h⟩)) htake))
    | exact wpAny_bind (wpAny_bind (m:=Builtin.Tuple.tupleExact _) (wpAny_newObj_type (wpAny_pure ⟨_,rfl,wpAny_pure h⟩) htake))
end
end HT
namespace L2
open PySem PySem.Spec PyProof.Rows
abbrev TO:=St->Hp->(Option Int->Hp->Prop)->Prop
def PO (X:Cx) (e:Option Expr) (t:TO):Prop:=
  ∀ (pins:List (Addr × Obj)) (s:Shared) (σ:St) (H:Hp) (Q:Option Int->Hp->Prop),Inv X pins σ H s->t σ H Q ->
    wpAny (model X.prog X.w) X.A (evalPart e X.env) (fun u s'=>∃ o H',Inv X pins σ H' s'/\IsPart u o/\Q o H') X.xe s
def tNoPart:TO:=fun _ H Q=>Q none H
def tPart (t:TE):TO:=fun σ H Q=>t σ H fun x H1=>∃ i,x=.int i/\Q (some i) H1
theorem intsAre_of {ns:List Int}:∀ {us:List Value},Vals (ns.map V.int) us->IntsAre us ns:=by
  induction ns with
  | nil=>intro us r; rw [List.map_nil] at r; cases r; exact .nil
  | cons n ns ih=>
    intro us r
    rw [List.map_cons] at r
    cases r with
    | cons r1 r2=>
      obtain ⟨t,e⟩:=r1
      subst e
      exact .cons n t (ih r2)
section
variable {X:Cx} {e:Expr} {te:TE} {lo hi:Option Expr} {tl th:TO} {pos p2:Pos}
theorem po_none:PO X none tNoPart:=by
  intro pins s σ H Q I h
  rw [evalPart_none]
  exact wpAny_pure ⟨none,H,I,.none,h⟩
theorem po_some (h:PE X e te):PO X (some e) (tPart te):=by
  intro pins s σ H Q I hw
  rw [evalPart_some]
  refine thn (h pins s σ H _ I hw) fun u s1 ⟨x,H1,I1,r1,q1⟩=>?_
  obtain ⟨i,rfl,q⟩:=q1
  obtain ⟨t,rfl⟩:=r1
  exact ⟨some i,H1,I1,.int i t,q⟩
def SlR (X:Cx) (r:V->Option Int->Option Int->Hp->VK->Prop):Prop:=
  ∀ (pins:List (Addr × Obj)) (s:Shared) (σ:St) (H:Hp) (x:V) (v vl vu:Value) (lo hi:Option Int) (sl:Addr) (Q:VK),Inv X pins σ H s->RelV x v->s.heap.IsSliceOf sl vl vu .none->IsPart vl lo->IsPart vu hi->r x lo hi H Q ->
    ∃ T id,typeLookup (.type T) "__getitem__" = pure (some (.builtin id))/\s.TypeIs v T/\wpAny (model X.prog X.w) X.A (getItem v (.ref sl)) (EP X pins σ Q) X.xe s
theorem SlR.or {r r':V->Option Int->Option Int->Hp->VK->Prop} (h:SlR X r) (h':SlR X r'):SlR X (fun x lo hi H Q=>r x lo hi H Q\/r' x lo hi H Q):=by
  intro pins s σ H x v vl vu lo hi sl Q I rx hs pl pu q
  rcases q with q | q
  · exact h pins s σ H x v vl vu lo hi sl Q I rx hs pl pu q
  · exact h' pins s σ H x v vl vu lo hi sl Q I rx hs pl pu q
def tSl (r:V->Option Int->Option Int->Hp->VK->Prop) (te:TE) (tl th:TO):TE:=fun σ H Q=>te σ H fun x H1=>tl σ H1 fun l H2=>th σ H2 fun u H3=>r x l u H3 Q
theorem pe_slice {r:V->Option Int->Option Int->Hp->VK->Prop} (hr:SlR X r) (he:PE X e te) (hl:PO X lo tl) (hu:PO X hi th):PE X (.Subscript e (.Slice lo hi none p2) pos) (tSl r te tl th):=by
  intro pins s σ H Q I h
  refine Subscript_ (thn (he pins s σ H _ I h) fun v s1 ⟨x,H1,I1,r1,q1⟩=>?_)
  refine wpAny_Slice (thn (hl pins s1 σ H1 _ I1 q1) fun vl s2 ⟨l,H2,I2,pl,q2⟩=>thn (hu pins s2 σ H2 _ I2 q2) fun vu s3 ⟨u,H3,I3,pu,q3⟩=>?_)
  rw [evalPart_none]
  refine wpAny_pure ?_
  have I4:Inv X pins σ H3 { s3 with heap:=s3.heap.push { cls:=.type "slice",data:=.fields #[vl,vu,.none] } }:=I3.kept (t':=s3.toks) fun b ob q=>Heap.get?_push_of_some _ q
  obtain ⟨T,id,hT,ht,hg⟩:=hr pins { s3 with heap:=s3.heap.push { cls:=.type "slice",data:=.fields #[vl,vu,.none] } } σ H3 x v vl vu l u s3.heap.objs.size Q I4 r1 (Heap.IsSliceOf.new ..) pl pu q3
  show wpAny (model X.prog X.w) X.A (subscriptTail e (.Slice lo hi none p2) v (.ref s3.heap.objs.size)) (EP X pins σ Q) X.xe { s3 with heap:=s3.heap.push { cls:=.type "slice",data:=.fields #[vl,vu,.none] } }
  exact tail_any (ops:=[.ref s3.heap.objs.size,v]) ht hT hg (by with_unfolding_all rfl)
def cutV (xs:List V) (lo hi:Option Int):List V:=(xs.drop (HT.sIx xs.length 0 lo)).take (HT.sIx xs.length xs.length hi - HT.sIx xs.length 0 lo)
theorem cutV_length (xs:List V) (lo hi:Option Int):(cutV xs lo hi).length<=xs.length:=by
  unfold cutV
  rw [List.length_take,List.length_drop]
  omega
def rSlT (K:PySem.W.Frag):V->Option Int->Option Int->Hp->VK->Prop:=fun x lo hi H Q=>∃ a xs,x=.ref a/\SqT K H a xs /\
  ¬ (HT.sIx xs.length 0 lo=0/\HT.sIx xs.length xs.length hi=xs.length)/\∀ p,H p=none->Q (.ref p) (upd H p (.tup (cutV xs lo hi)))
theorem sl_tup:SlR X (rSlT X.K):=by
  intro pins s σ H x v vl vu lo hi sl Q I rx hs pl pu h
  obtain ⟨a,xs,rfl,hx,hw,q⟩:=h
  cases rx
  obtain ⟨its,r,ht,hz⟩:=I.tuple hx
  have hlen:its.toArray.size=xs.length:=by rw [List.size_toArray]; exact r.length.symm
  refine ⟨"tuple",_,PyProof.Rows.slot_tuple_getitem.lookup,ht.typeIs,?_⟩
  refine HT.getItem_tuple_cut ht hs pl pu (by rw [hlen]; exact hw) ?_ (by rw [hlen]; exact hz)
  rw [hlen]
  refine ⟨.ref s.heap.objs.size,_,I.laid (t':=s.toks) (o:=.tup (cutV xs lo hi)) (fun b ob q=>Heap.get?_push_of_some _ q) (Nat.le_refl _) ?_,rfl,q _ (I.hok.fresh (Nat.le_refl _))⟩
  exact ⟨Nat.le_trans (cutV_length xs lo hi) hz,_,(r.drop (HT.sIx xs.length 0 lo)).take (HT.sIx xs.length xs.length hi - HT.sIx xs.length 0 lo),IsTup.new _ _⟩
def rLtT (K:PySem.W.Frag):R2:=fun x y H Q=>∃ a b ns ms,x=.ref a/\y=.ref b/\SqT K H a (ns.map V.int)/\SqT K H b (ms.map V.int)/\Q (.bl (HT.lexLt ns ms)) H
theorem op_ltT (hu:X.A.units < cLine):OpR X (compareOp .Lt) (rLtT X.K):=by
  intro pins s σ H x y v u Q I rx ry h
  obtain ⟨a,b,ns,ms,rfl,rfl,ha,hb,q⟩:=h
  cases rx
  cases ry
  obtain ⟨its,r1,p1,_⟩:=I.tuple ha
  obtain ⟨its2,r2,p2,_⟩:=I.tuple hb
  have i1:IntsAre its.toArray.toList ns:=intsAre_of r1
  have i2:IntsAre its2.toArray.toList ms:=intsAre_of r2
  exact HT.lt_tupInts p1 p2 i1 i2 hu ⟨.bl (HT.lexLt ns ms),H,I,rfl,q⟩
def rCatT (K:PySem.W.Frag):R2:=fun x y H Q=>∃ a b xs ys,x=.ref a/\y=.ref b/\SqT K H a xs/\SqT K H b ys/\xs ≠ []/\xs.length + ys.length<=sizeLine /\
  (ys=[]->Q (.ref a) H)/\(ys ≠ []->∀ p,H p=none->Q (.ref p) (upd H p (.tup (xs ++ ys))))
theorem Vals.nil_iff {xs:List V} {us:List Value} (r:Vals xs us):us=[] <-> xs=[]:=by
  cases r with
  | nil=>simp
  | cons _ _=>simp
theorem op_catT:OpR X (binaryOp .Add) (rCatT X.K):=by
  intro pins s σ H x y v u Q I rx ry h
  obtain ⟨a,b,xs,ys,rfl,rfl,ha,hb,hx,hz,q1,q2⟩:=h
  cases rx
  cases ry
  obtain ⟨its,r1,p1,_⟩:=I.tuple ha
  obtain ⟨its2,r2,p2,_⟩:=I.tuple hb
  refine HT.cat_tup p1 p2 (fun z=>hx (r1.nil_iff.mp z)) (fun z=>⟨.ref a,H,I,rfl,q1 (r2.nil_iff.mp z)⟩) (fun z=>?_) (by rw [<- r1.length,<- r2.length]; exact hz)
  refine ⟨.ref s.heap.objs.size,_,I.laid (t':=s.toks) (o:=.tup (xs ++ ys)) (fun b ob q=>Heap.get?_push_of_some _ q) (Nat.le_refl _) ?_,rfl,q2 (fun w=>z (r2.nil_iff.mpr w)) _ (I.hok.fresh (Nat.le_refl _))⟩
  exact ⟨by rw [List.length_append]; exact hz,_,r1.append r2,IsTup.new _ _⟩
end
end L2
namespace L2
open PySem PySem.Spec PyProof.Rows
def ixN (n:Nat) (i:Int):Option Nat:=if 0<=i then (if i < n then some i.toNat else none) else if -(n:Int)<=i then some (i + n).toNat else none
def atI {α:Type} (xs:List α) (i:Int):Option α:=(ixN xs.length i).bind fun j=>xs[j]?
theorem ixN_seq {n:Nat} {i:Int} {j:Nat} (h:ixN n i=some j):seqIndex? i n=some j/\j < n/\-(n:Int)<=i/\i < n:=by
  unfold ixN at h
  by_cases h0:0<=i
  · rw [if_pos h0] at h
    by_cases h1:i < n
    · rw [if_pos h1] at h
      have e:i.toNat=j:=Option.some.inj h
      exact ⟨by rw [seqIndex_of h0 h1,e],by omega,by omega,h1⟩
    · rw [if_neg h1] at h; cases h
  · rw [if_neg h0] at h
    by_cases h1:-(n:Int)<=i
    · rw [if_pos h1] at h
      have e:(i + n).toNat=j:=Option.some.inj h
      exact ⟨by rw [seqIndex_neg (by omega) h1,e],by omega,h1,by omega⟩
    · rw [if_neg h1] at h; cases h
theorem atI_get {α:Type} {xs:List α} {i:Int} {v:α} (h:atI xs i=some v):∃ j,seqIndex? i xs.length=some j/\xs[j]?=some v/\j < xs.length/\-(xs.length:Int)<=i/\i < xs.length:=by
  unfold atI at h
  cases e:ixN xs.length i with
  | none=>rw [e] at h; cases h
  | some j=>
    rw [e] at h
    obtain ⟨h1,h2,h3,h4⟩:=ixN_seq e
    exact ⟨j,h1,h,h2,h3,h4⟩
def PlainIx (b:Expr):Prop:=∀ o i,subscripted b false o i=operate [o,i] (getItem o i)
def IxR (X:Cx) (r:R2):Prop:=
  ∀ (value slice:Expr) (pins:List (Addr × Obj)) (s:Shared) (σ:St) (H:Hp) (x y:V) (v u:Value) (Q:VK),Inv X pins σ H s->RelV x v->RelV y u->r x y H Q ->
    subscripted slice false v u=operate [v,u] (getItem v u)->wpAny (model X.prog X.w) X.A (subscriptTail value slice v u) (EP X pins σ Q) X.xe s
def MtR (X:Cx) (id:String) (r:V->List V->Hp->VK->Prop):Prop:=
  ∀ (pins:List (Addr × Obj)) (s:Shared) (σ:St) (H:Hp) (x:V) (xs:List V) (v:Value) (us:List Value) (Q:VK),Inv X pins σ H s->RelV x v->Vals xs us->r x xs H Q ->
    wpAny (model X.prog X.w) X.A (call (.builtin id) (v :: us)) (EP X pins σ Q) X.xe s
section
variable {X:Cx} {a b:Expr} {ta tb:TE} {pos:Pos}
theorem IxR.or {r r':R2} (h:IxR X r) (h':IxR X r'):IxR X (fun x y H Q=>r x y H Q\/r' x y H Q):=by
  intro value slice pins s σ H x y v u Q I rx ry q hs
  rcases q with q | q
  · exact h value slice pins s σ H x y v u Q I rx ry q hs
  · exact h' value slice pins s σ H x y v u Q I rx ry q hs
theorem pe_ix {r:R2} (hr:IxR X r) (ha:PE X a ta) (hb:PE X b tb) (hs:PlainIx b):PE X (.Subscript a b pos) (tOp r ta tb):=by
  intro pins s σ H Q I h
  exact Subscript_ (binT ha hb I h fun v u s2 x y H2 I2 rx ry q=>hr a b pins s2 σ H2 x y v u Q I2 rx ry q (hs _ _))
def rIxL (K:PySem.W.Frag):R2:=fun x y H Q=>∃ p xs i v,x=.ref p/\y=.int i/\SqL K H p xs/\atI xs i=some v/\Q v H
def rIxT (K:PySem.W.Frag):R2:=fun x y H Q=>∃ p xs i v,x=.ref p/\y=.int i/\SqT K H p xs/\atI xs i=some v/\Q v H
def rIxS:R2:=fun x y H Q=>∃ z i c,x=.str z/\y=.int i/\z.length<=sizeLine/\atI z.cps.toList i=some c/\Q (.str ⟨#[c]⟩) H
theorem ix_list:IxR X (rIxL X.K):=by
  intro value slice pins s σ H x y v u Q I rx ry h hs
  obtain ⟨p,xs,i,z,rfl,rfl,hq,he,q⟩:=h
  cases rx
  obtain ⟨t,rfl⟩:=ry
  obtain ⟨its,r,pl,hz⟩:=I.list hq
  obtain ⟨j,h1,h2,h3,h4,h5⟩:=atI_get he
  obtain ⟨w,ew,rw'⟩:=r.get h2
  have hl:=r.length
  have hn:=line63
  have fin:EP X pins σ Q w s:=⟨z,H,I,rw',q⟩
  by_cases h0:0<=i
  · have hj:i.toNat=j:=by
      rw [seqIndex_of h0 h5] at h1
      exact Option.some.inj h1
    exact item_listR pl.isList h0 (by omega) (by rw [hj]; simpa using ew) fin hs
  · have hj:(i + (its.toArray.size:Int)).toNat=j:=by
      rw [seqIndex_neg (by omega) h4] at h1
      rw [List.size_toArray,<- hl]
      exact Option.some.inj h1
    exact subscriptTail_builtinR (x:=w) pl.isList.typeIs slot_list_getitem.lookup
      (wpAny_getItem_list_neg (Q:=fun r s'=>r=w/\EP X pins σ Q r s') pl.isList (by omega) (by rw [List.size_toArray] <;> omega) (by omega) (by rw [hj]; simpa using ew) ⟨rfl,fin⟩) hs
theorem ix_tup:IxR X (rIxT X.K):=by
  intro value slice pins s σ H x y v u Q I rx ry h hs
  obtain ⟨p,xs,i,z,rfl,rfl,hq,he,q⟩:=h
  cases rx
  obtain ⟨t,rfl⟩:=ry
  obtain ⟨its,r,pl,hz⟩:=I.tuple hq
  obtain ⟨j,h1,h2,h3,h4,h5⟩:=atI_get he
  obtain ⟨w,ew,rw'⟩:=r.get h2
  have hl:=r.length
  have hn:=line63
  have fin:EP X pins σ Q w s:=⟨z,H,I,rw',q⟩
  exact subscriptTail_builtinR (x:=w) pl.typeIs slot_tuple_getitem.lookup
    (getItem_tuple (j:=j) (Q:=fun r s'=>r=w/\EP X pins σ Q r s') pl (by omega) (by omega) (by rw [List.size_toArray,<- hl]; exact h1) (by simpa using ew) ⟨rfl,fin⟩) hs
theorem ix_str:IxR X rIxS:=by
  intro value slice pins s σ H x y v u Q I rx ry h hs
  obtain ⟨z,i,c,rfl,rfl,hz,he,q⟩:=h
  obtain ⟨t,rfl⟩:=rx
  obtain ⟨t',rfl⟩:=ry
  obtain ⟨j,h1,h2,h3,h4,h5⟩:=atI_get he
  have hl:z.cps.toList.length=z.length:=by simp [Str.length]
  rw [hl] at h1 h4 h5
  have hn:=line63
  exact tail_any (typeIs_str s z t) slot_str_getitem.lookup (getItem_str (c:=c) (by
    have e1:decide (i < -(2 ^ 63:Int))=false:=decide_eq_false (by omega)
    have e2:decide (i>=2 ^ 63)=false:=decide_eq_false (by omega)
    rw [e1,e2,Bool.or_false]) (by rw [h1]; simpa using h2) ⟨.str ⟨#[c]⟩,H,I.tok _,⟨_,rfl⟩,q⟩) hs
def rIx (K:PySem.W.Frag):R2:=fun x y H Q=>rIxL K x y H Q\/rIxT K x y H Q\/rIxS x y H Q
theorem ix_seq:IxR X (rIx X.K):=ix_list.or (ix_tup.or ix_str)
theorem mapSeq_set (its:List Value) (n j:Nat) (u:Value):Obj.mapSeq (·.setIfInBounds j u) { cls:=.type "list",data:=.seq its.toArray n }={ cls:=.type "list",data:=.seq (its.set j u).toArray n }:=by
  simp [Obj.mapSeq]
theorem Inv.lst {pins:List (Addr × Obj)} {σ:St} {H:Hp} {s:Shared} {p:Addr} {xs:List V} (I:Inv X pins σ H s) (h:H p=some (.lst xs)) :
    ∃ (its:List Value) (n:Nat),Vals xs its/\s.heap.get? p=some { cls:=.type "list",data:=.seq its.toArray n }/\xs.length<=sizeLine:=by
  obtain ⟨z,its,n,r,e⟩:=I.hok p _ h
  exact ⟨its,n,r,e,z⟩
theorem Inv.lstUpd {pins:List (Addr × Obj)} {σ:St} {H:Hp} {s:Shared} {p:Addr} {xs ys:List V} {its its':List Value} {n n':Nat} {f:Obj->Obj} (I:Inv X pins σ H s) (h:H p=some (.lst xs))
    (ho:s.heap.get? p=some { cls:=.type "list",data:=.seq its.toArray n }) (hf:f { cls:=.type "list",data:=.seq its.toArray n }={ cls:=.type "list",data:=.seq its'.toArray n' }) (r:Vals ys its') (hz:ys.length<=sizeLine) (t:Nat) :
    Inv X pins σ (upd H p (.lst ys)) { s with heap:=s.heap.update p f,toks:=t }:=by
  have e:(s.heap.update p f).get? p=some { cls:=.type "list",data:=.seq its'.toArray n' }:=by
    rw [Heap.get?_update_self f ho (by rw [hf] <;> rfl),hf]
  refine I.write (x:=p) (e:=p) (by rw [h]; trivial) (.inl rfl) (fun b u hb q=>(Heap.get?_update_other _ _ (Ne.symm hb)).trans q) ⟨_,e⟩ ?_
  exact ⟨hz,its',n',r,e⟩
def rSetL:V->V->V->Hp->(Hp->Prop)->Prop:=fun o i v H Q=>∃ p xs k j,o=.ref p/\i=.int k/\H p=some (.lst xs)/\ixN xs.length k=some j/\Q (upd H p (.lst (xs.set j v)))
theorem set_list:PSet X rSetL:=by
  intro pins s σ H o i v ov iv u Q I ro ri rv h
  obtain ⟨p,xs,k,j,rfl,rfl,hp,hj,q⟩:=h
  cases ro
  obtain ⟨t,rfl⟩:=ri
  obtain ⟨its,n,r,ho,hz⟩:=I.lst hp
  obtain ⟨h1,h2,h3,h4⟩:=ixN_seq hj
  have hl:=r.length
  have hn:=line63
  have I':Inv X pins σ (upd H p (.lst (xs.set j v))) { s with heap:=s.heap.update p (Obj.mapSeq (·.setIfInBounds j u)) }:=
    I.lstUpd hp ho (mapSeq_set its n j u) (r.set rv j) (by rw [List.length_set]; exact hz) s.toks
  by_cases h0:0<=k
  · have hk:k.toNat=j:=by
      rw [seqIndex_of h0 h4] at h1
      exact Option.some.inj h1
    exact PySem.W.ki_setAt ho h0 (by omega) (by rw [List.size_toArray,<- hl]; exact h4) (by rw [hk]; exact ⟨_,I',q⟩)
  · have hk:(k + (its.toArray.size:Int)).toNat=j:=by
      rw [seqIndex_neg (by omega) h3] at h1
      rw [List.size_toArray,<- hl]
      exact Option.some.inj h1
    exact PySem.W.ki_setBack ho (by omega) (by rw [List.size_toArray,<- hl]; exact h3) (by omega) (by rw [hk]; exact ⟨_,I',q⟩)
theorem slice_bounds (lo hi:Option Int) (n:Nat):(sliceBounds lo hi none n).1=((HT.sIx n 0 lo:Nat):Int)/\(sliceBounds lo hi none n).2.1=((HT.sIx n n hi:Nat):Int)/\(sliceBounds lo hi none n).2.2=1:=by
  refine ⟨?_,?_,rfl⟩
  · cases lo with
    | none=>simp [sliceBounds,HT.sIx]
    | some i=>
      simp only [sliceBounds,HT.sIx,Option.getD_none,show (1:Int) > 0 by decide,if_true]
      by_cases h:i < 0
      · simp only [h,if_true] <;> omega
      · simp only [h,if_false] <;> omega
  · cases hi with
    | none=>simp [sliceBounds,HT.sIx]
    | some i=>
      simp only [sliceBounds,HT.sIx,Option.getD_none,show (1:Int) > 0 by decide,if_true]
      by_cases h:i < 0
      · simp only [h,if_true] <;> omega
      · simp only [h,if_false] <;> omega
theorem slicePick_cut (its:List Value) (lo hi:Option Int):slicePick its.toArray lo hi none=((its.drop (HT.sIx its.length 0 lo)).take (HT.sIx its.length its.length hi - HT.sIx its.length 0 lo)).toArray:=by
  obtain ⟨h1,h2,h3⟩:=slice_bounds lo hi its.toArray.size
  unfold slicePick
  rw [h1,h2,h3]
  simp only [sliceRange_one,pick_run,List.size_toArray] <;> rfl
def rSlL (K:PySem.W.Frag):V->Option Int->Option Int->Hp->VK->Prop:=fun x lo hi H Q=>∃ a xs,x=.ref a/\SqL K H a xs/\∀ p,H p=none->Q (.ref p) (upd H p (.lst (cutV xs lo hi)))
theorem sl_list:SlR X (rSlL X.K):=by
  intro pins s σ H x v vl vu lo hi sl Q I rx hs pl pu h
  obtain ⟨a,xs,rfl,hx,q⟩:=h
  cases rx
  obtain ⟨its,r,ht,hz⟩:=I.list hx
  have hlen:=r.length
  refine ⟨"list",_,slot_list_getitem.lookup,ht.isList.typeIs,?_⟩
  refine wpAny_getItem_list_slice ht.isList hs pl pu .none (by simp) ?_ (by rw [List.size_toArray] <;> omega)
  rw [slicePick_cut,<- hlen]
  refine ⟨.ref s.heap.objs.size,_,I.laid (t':=s.toks) (o:=.lst (cutV xs lo hi)) (fun b ob q=>Heap.get?_push_of_some _ q) (Nat.le_refl _) ?_,rfl,q _ (I.hok.fresh (Nat.le_refl _))⟩
  exact ⟨Nat.le_trans (cutV_length xs lo hi) hz,_,0,(r.drop (HT.sIx xs.length 0 lo)).take (HT.sIx xs.length xs.length hi - HT.sIx xs.length 0 lo),Heap.get?_push_size _ rfl⟩
theorem call_len_seq:CallR X (.builtin "len") (fun xs H Q=>∃ p ys,xs=[.ref p]/\(SqL X.K H p ys\/SqT X.K H p ys)/\Q (.int ys.length) H):=by
  intro pins s σ H xs us Q I r h
  obtain ⟨p,ys,rfl,hq,q⟩:=h
  obtain ⟨u,rfl,rx⟩:=vals1 r
  cases rx
  have hn:=line63
  rcases hq with hq | hq
  · obtain ⟨its,r',pl,hz⟩:=I.list hq
    have hlen:=r'.length
    exact Calls.call_len_list pl.isList (by simp only [List.size_toArray] <;> omega) ⟨.int ys.length,H,I.tok _,⟨s.toks + 1,by rw [List.size_toArray,hlen]⟩,q⟩
  · obtain ⟨its,r',pl,hz⟩:=I.tuple hq
    have hlen:=r'.length
    exact len_tuple pl (by simp only [List.size_toArray] <;> omega) ⟨.int ys.length,H,I.tok _,⟨s.toks + 1,by rw [List.size_toArray,hlen]⟩,q⟩
theorem call_len_str:CallR X (.builtin "len") (fun xs H Q=>∃ z,xs=[.str z]/\z.length<=sizeLine/\Q (.int z.length) H):=by
  intro pins s σ H xs us Q I r h
  obtain ⟨z,rfl,hz,q⟩:=h
  obtain ⟨u,rfl,t,rfl⟩:=vals1 r
  have hn:=line63
  exact len_str (by omega) ⟨.int z.length,H,I.tok _,⟨_,rfl⟩,q⟩
theorem call_tuple_of:CallR X (.type "tuple") (fun xs H Q=>∃ p ys,xs=[.ref p]/\((SqL X.K H p ys/\∀ l,H l=none->Q (.ref l) (upd H l (.tup ys)))\/(SqT X.K H p ys/\Q (.ref p) H))):=by
  intro pins s σ H xs us Q I r h
  obtain ⟨p,ys,rfl,h⟩:=h
  obtain ⟨u,rfl,rx⟩:=vals1 r
  cases rx
  rcases h with ⟨hq,q⟩ | ⟨hq,q⟩
  · obtain ⟨its,r',pl,hz⟩:=I.list hq
    have hlen:=r'.length
    refine call_tuple_list pl.isList (fun h' kp=>?_) (by simp only [List.size_toArray] <;> omega)
    have I1:Inv X pins σ H { s with heap:=h' }:=I.kept (t':=s.toks) kp
    have I2:Inv X pins σ (upd H h'.objs.size (.tup ys)) { s with heap:=h'.push { cls:=.type "tuple",data:=.seq its.toArray } }:=
      I1.laid (t':=s.toks) (fun b o e=>Heap.get?_push_of_some _ e) (Nat.le_refl _) (show ObjOk X.prog X.w _ _ _ (.tup ys) from ⟨hz,its,r',IsTup.new _ _⟩)
    exact ⟨.ref h'.objs.size,_,I2,rfl,q _ (I1.hok.fresh (Nat.le_refl _))⟩
  · obtain ⟨its,r',pl,hz⟩:=I.tuple hq
    exact call_tuple_same pl ⟨.ref p,H,I,rfl,q⟩
def tyV (K:PySem.W.Frag) (T:String) (x:V) (H:Hp):Prop:=match x with
  | .str _=>T = "str"
  | .int _=>T = "int"
  | .ref p=>(T = "list" /\ ∃ xs,SqL K H p xs)\/(T = "tuple" /\ ∃ o,K.lookup p=some o/\o.cls=.type "tuple" /\ o.dict=none) \/
      (T = "dict" /\ ((∃ kvs,H p=some (.dK kvs))\/∃ kvs,H p=some (.dT kvs)))\/(T = "set" /\ ∃ S n,H p=some (.set S n))
  | _=>False
theorem tyV_is {pins:List (Addr × Obj)} {σ:St} {H:Hp} {s:Shared} {T:String} {x:V} {v:Value} (I:Inv X pins σ H s) (r:RelV x v) (ty:tyV X.K T x H) :
    s.TypeIs v T/\∀ a,v=.ref a->∃ ob,s.heap.get? a=some ob/\ob.dict=none:=by
  cases x with
  | str z=>
    obtain ⟨t,rfl⟩:=r
    cases (show T = "str" from ty)
    exact ⟨typeIs_str s z t,fun _ e=>nomatch e⟩
  | int i=>
    obtain ⟨t,rfl⟩:=r
    cases (show T = "int" from ty)
    exact ⟨typeIs_int s i t,fun _ e=>nomatch e⟩
  | ref p=>
    cases r
    rcases ty with ⟨rfl,xs,hq⟩ | ⟨rfl,o,hk,hc,hd⟩ | ⟨rfl,hk⟩ | ⟨rfl,S,n,hk⟩
    · obtain ⟨its,_,pl,_⟩:=I.list hq
      refine ⟨pl.isList.typeIs,fun a e=>?_⟩
      cases e
      obtain ⟨o,n,e,c,hd,_⟩:=pl
      exact ⟨o,e,hd⟩
    · refine ⟨⟨o,I.kIn p o hk,hc⟩,fun a e=>?_⟩
      cases e
      exact ⟨o,I.kIn _ o hk,hd⟩
    · have z:∃ o,s.heap.get? p=some o/\o.ExactDict:=by
        rcases hk with ⟨kvs,hk⟩ | ⟨kvs,hk⟩
        · obtain ⟨_,_,_,_,o,_,_,e,ex,_⟩:=I.hok p _ hk
          exact ⟨o,e,ex⟩
        · obtain ⟨_,_,_,_,o,_,_,e,ex,_⟩:=I.hok p _ hk
          exact ⟨o,e,ex⟩
      obtain ⟨o,e,ex⟩:=z
      refine ⟨⟨o,e,ex.1⟩,fun a e2=>?_⟩
      cases e2
      exact ⟨o,e,ex.2.1⟩
    · obtain ⟨o,_,_,_,e,ex,_⟩:=I.hok p _ hk
      refine ⟨⟨o,e,ex.1⟩,fun a e2=>?_⟩
      cases e2
      exact ⟨o,e,ex.2.1⟩
  | _=>exact False.elim ty
def tBM (K:PySem.W.Frag) (T:String) (r:V->List V->Hp->VK->Prop) (to:TE) (t:TA):TE:=fun σ H Q=>to σ H fun x H1=>tyV K T x H1/\t σ H1 fun xs H2=>r x xs H2 Q
variable {o e:Expr} {es:List Expr} {to:TE} {t:TA} {name:Str} {apos cpos:Pos} {T id:String} {r:V->List V->Hp->VK->Prop}
theorem pe_bm (pa:PlainAttrs T) (slot:Slot T name id) (hty:typeOf (.builtin id)=pure (.type "method_descriptor")) (hm:MtR X id r) (ho:PE X o to) (ha:PA X (e :: es) t)
    (hbase:attributeBase o name X.env (eval o X.env)=eval o X.env:=by rfl)
    (hfew:((backTo cpos (starEach (e :: es) X.env)).all (fun x=>!x.1) && (backToKw cpos (keywordEach [] X.env)).all (fun x=>x.1.isSome)
      && decide ((e :: es).length + ([]:List Keyword).length + (if ([]:List Keyword).isEmpty then 0 else 1) < 30))=true:=by rfl)
    (hline:(apos.endLine == cpos.line)=true:=by rfl) (hs:starEach (e :: es) X.env=(false,eval e X.env) :: starEach es X.env:=by rfl) (hplain:(backTo cpos (starEach es X.env)).any (·.1)=false:=by rfl) :
    PE X (.Call (.Attribute o name apos) (e :: es) [] cpos) (tBM X.K T r to t):=by
  intro pins s σ H Q I h
  refine wpAny_Call_method_late hbase hfew hline rfl (thn (ho pins s σ H _ I h) fun v s1 ⟨x,H1,I1,r1,ty,q1⟩=>?_)
  obtain ⟨h1,h2⟩:=tyV_is I1 r1 ty
  refine ⟨T,id,pa,slot,hty,h1,h2,?_⟩
  have hA:=ha cpos pins s1 σ H1 _ I1 q1
  rw [hs] at hA ⊢
  refine Calls.callWith_builtin (by show (false || (backTo cpos (starEach es X.env)).any (·.1))=false; rw [hplain] <;> rfl) (Calls.evalArgs_plain ?_)
  exact thn hA fun us s2 ⟨vs,H2,I2,r2,q2⟩=>hm pins s2 σ H2 x vs v us Q I2 r1 r2 q2
end
end L2
namespace L2
open PySem PySem.Spec PyProof.Rows
def MtM (X:Cx) (id:String) (r:V->List V->Hp->VK->Prop):Prop:=
  ∀ (pins:List (Addr × Obj)) (s:Shared) (σ:St) (H:Hp) (x:V) (xs:List V) (v:Value) (us:List Value) (Q:VK),Inv X pins σ H s->RelV x v->Vals xs us->r x xs H Q ->
    wpAny (model X.prog X.w) X.A (call (.builtin id) (v :: us)) (EP X pins σ Q) X.xe s
theorem Vals.one:∀ {x:V} {us:List Value},Vals [x] us->∃ u,us=[u]/\RelV x u
  | _,_,.cons r .nil=>⟨_,rfl,r⟩
theorem Vals.reverse {xs:List V} {us:List Value} (h:Vals xs us):Vals xs.reverse us.reverse:=by
  induction h with
  | nil=>exact .nil
  | cons r t ih=>rw [List.reverse_cons,List.reverse_cons]; exact Vals.append ih (.cons r .nil)
theorem Vals.rep {xs:List V} {us:List Value} (h:Vals xs us):∀ k:Nat,Vals (List.replicate k xs).flatten (List.replicate k us).flatten
  | 0=>.nil
  | k + 1=>by
    rw [List.replicate_succ,List.replicate_succ,List.flatten_cons,List.flatten_cons]
    exact Vals.append h (Vals.rep h k)
theorem foldl_rep (its:List Value):∀ (k:Nat) (acc:List Value),
    List.foldl (fun x1 x2=>x1 ++ x2) acc.toArray (List.replicate k its.toArray)=(acc ++ (List.replicate k its).flatten).toArray
  | 0,acc=>by simp
  | k + 1,acc=>by
    have e:acc.toArray ++ its.toArray=(acc ++ its).toArray:=by simp
    have e2:(acc ++ its) ++ (List.replicate k its).flatten=acc ++ (List.replicate (k + 1) its).flatten:=by
      rw [List.replicate_succ,List.flatten_cons,List.append_assoc]
    rw [<- e2,<- foldl_rep its k (acc ++ its),<- e,List.replicate_succ,List.foldl_cons]
section
variable {X:Cx} {pins:List (Addr × Obj)} {σ:St} {H:Hp} {s:Shared} {l b:Addr} {xs ys zs:List V}
theorem Inv.lset {its its':List Value} {n:Nat} {f:Array Value->Array Value} {t':Nat} (I:Inv X pins σ H s) (hH:H l=some (.lst xs))
    (e:s.heap.get? l=some { cls:=.type "list",data:=.seq its.toArray n }) (hf:f its.toArray=its'.toArray) (hv:Vals ys its') (hz:ys.length<=sizeLine) :
    Inv X pins σ (upd H l (.lst ys)) { s with heap:=s.heap.update l (Obj.mapSeq f),toks:=t' }:=by
  have q:=PySem.IsL.update e f
  rw [hf] at q
  refine I.write (x:=l) (e:=l) (by rw [hH]; exact trivial) (.inl rfl) (fun b' u hb hu=>(Heap.get?_update_other s.heap (Obj.mapSeq f) (Ne.symm hb)).trans hu) ⟨_,q⟩ ?_
  exact ⟨hz,its',_,hv,q⟩
theorem Inv.lnew {its:List Value} {t':Nat} (I:Inv X pins σ H s) (hv:Vals ys its) (hz:ys.length<=sizeLine) :
    Inv X pins σ (upd H s.heap.objs.size (.lst ys)) { s with heap:=s.heap.push { cls:=.type "list",data:=.seq its.toArray },toks:=t' }:=
  I.laid (fun _ _ q=>Heap.get?_push_of_some _ q) (Nat.le_refl _) ⟨hz,its,0,hv,Heap.get?_push_size _ rfl⟩
theorem Inv.fresh (I:Inv X pins σ H s):H s.heap.objs.size=none:=I.hok.fresh (Nat.le_refl _)
theorem Inv.lstM (I:Inv X pins σ H s) (hH:H l=some (.lst xs)):xs.length<=sizeLine/\∃ (its:List Value) (n:Nat),Vals xs its/\xs.length=its.length/\s.heap.get? l=some { cls:=.type "list",data:=.seq its.toArray n }:=by
  obtain ⟨z,its,n,r,e⟩:=I.hok l _ hH
  exact ⟨z,its,n,r,r.length,e⟩
theorem notLongL {n:Nat} (h:n<=sizeLine):Builtin.List.listTooLong n=false:=by
  unfold Builtin.List.listTooLong
  exact decide_eq_false (by omega)
end
section
variable {X:Cx}
def rExtend:V->List V->Hp->VK->Prop:=fun x vs H Q=>∃ l b xs zs,x=.ref l/\vs=[.ref b]/\H l=some (.lst xs)/\H b=some (.lst zs)/\xs.length + zs.length<=sizeLine/\Q .non (upd H l (.lst (xs ++ zs)))
theorem mt_extend:MtM X "list.extend" rExtend:=by
  intro pins s σ H x vs v us Q I rx rv h
  obtain ⟨l,b,xs,zs,rfl,rfl,hH,hB,hz,q⟩:=h
  cases rx
  obtain ⟨u,rfl,ru⟩:=rv.one
  cases ru
  obtain ⟨z,its,n,r,hl,e⟩:=I.lstM hH
  obtain ⟨z2,its2,n2,r2,hl2,e2⟩:=I.lstM hB
  have hsz:its.toArray.size + its2.toArray.size<=sizeLine:=by rw [List.size_toArray,List.size_toArray]; omega
  have hlong:¬ (!its.toArray.isEmpty && Builtin.List.listTooLong (its.toArray.size + its2.toArray.size))=true:=by
    rw [notLongL hsz,Bool.and_false]
    exact Bool.false_ne_true
  refine call_meets F.slot_list_extend ⟨_,e,rfl⟩ F.entry_list_extend (F.args_list_extend_2 _ _)
    (AutoSeq1.list_extend_list_list_0 l its.toArray n b its2.toArray n2 hlong (by rw [List.size_toArray]; omega) (by omega)) ⟨e,e2,?_⟩
  refine ⟨.non,_,I.lset (its':=its ++ its2) hH e (by simp) (r.append r2) ?_,rfl,q⟩
  rw [List.length_append]
  omega
def rCat:R2:=fun x y H Q=>∃ l b xs zs,x=.ref l/\y=.ref b/\H l=some (.lst xs)/\H b=some (.lst zs)/\xs.length + zs.length<=sizeLine/\∀ p,H p=none->Q (.ref p) (upd H p (.lst (xs ++ zs)))
theorem op_cat:OpR X (binaryOp .Add) rCat:=by
  intro pins s σ H x y v u Q I rx ry h
  obtain ⟨l,b,xs,zs,rfl,rfl,hH,hB,hz,q⟩:=h
  cases rx
  cases ry
  obtain ⟨z,its,n,r,hl,e⟩:=I.lstM hH
  obtain ⟨z2,its2,n2,r2,hl2,e2⟩:=I.lstM hB
  refine PySem.P.add_list e e2 ?_ (by rw [List.size_toArray,List.size_toArray]; omega)
  have ea:its.toArray ++ its2.toArray=(its ++ its2).toArray:=by simp
  rw [ea]
  exact ⟨.ref _,_,I.lnew (t':=s.toks) (r.append r2) (by rw [List.length_append]; omega),rfl,q _ I.fresh⟩
def rRep:R2:=fun x y H Q=>∃ l k xs,x=.ref l/\y=.int k/\H l=some (.lst xs)/\-(2 ^ 63)<=k/\k < 2 ^ 63/\xs.length * k.toNat<=sizeLine /\
  ∀ p,H p=none->Q (.ref p) (upd H p (.lst (List.replicate k.toNat xs).flatten))
theorem len_rep {α:Type} (xs:List α) (k:Nat):(List.replicate k xs).flatten.length=k * xs.length:=by
  induction k with
  | zero=>simp
  | succ k ih=>rw [List.replicate_succ,List.flatten_cons,List.length_append,ih,Nat.succ_mul,Nat.add_comm]
theorem op_rep:OpR X (binaryOp .Mult) rRep:=by
  intro pins s σ H x y v u Q I rx ry h
  obtain ⟨l,k,xs,rfl,rfl,hH,h1,h2,hz,q⟩:=h
  cases rx
  obtain ⟨t,rfl⟩:=ry
  obtain ⟨z,its,n,r,hl,e⟩:=I.lstM hH
  have hlen:its.toArray.size * k.toNat<=sizeLine:=by rw [List.size_toArray,<- hl]; exact hz
  have hcap:¬ its.toArray.size * k.toNat > (2 ^ 63 - 1) / 8:=by
    have:(sizeLine:Nat)<=(2 ^ 63 - 1) / 8:=by decide
    omega
  have hfit:¬ (!Builtin.List.listFitsIndex k)=true:=by
    rw [fitsIndex_both h1 h2]
    exact Bool.false_ne_true
  have hlong:¬ Builtin.List.listTooLong (its.toArray.size * k.toNat)=true:=by
    rw [notLongL hlen]
    exact Bool.false_ne_true
  have hnew:List.foldl (fun x1 x2=>x1 ++ x2) #[] (List.replicate (if its.toArray.isEmpty=true then 0 else k.toNat) its.toArray)=(List.replicate k.toNat its).flatten.toArray:=by
    have f0:∀ m:Nat,List.foldl (fun x1 x2=>x1 ++ x2) #[] (List.replicate m its.toArray)=(List.replicate m its).flatten.toArray:=fun m=>by
      have:=foldl_rep its m []
      rw [List.nil_append] at this
      exact this
    rw [f0]
    cases its with
    | nil=>simp
    | cons a r'=>rw [if_neg (by simp)]
  refine wpAny_binaryOp_repeat_ref (T := "list") (U := "int") (by decide) ⟨_,e,rfl⟩ (fun s'=>typeIs_int s' k t) noFill_list_mul F.fills_int_mul F.slot_int_rmul repeat_list F.slot_int_index.lookup
    (call_meets F.slot_int_rmul (typeIs_int s k t) F.entry_int_rmul (F.args_int_rmul_2 _ _) (int___rmul___int_list k t l its.toArray n)
      ⟨e,rfl,⟨_,e,rfl⟩,call_meets F.slot_list_mul ⟨_,e,rfl⟩ F.entry_list_mul (F.args_list_mul_2 _ _) (AutoListH.list___mul___list_int_3 l its.toArray n k t hfit hcap hlong) ⟨e,?_⟩⟩)
  rw [hnew]
  exact ⟨.ref _,_,I.lnew (t':=s.toks) (r.rep k.toNat) (by rw [len_rep,Nat.mul_comm]; exact hz),rfl,q _ I.fresh⟩
end
section
variable {prog:Program} {w:World} {A:Around} {E:Value->Shared->Prop} {s:Shared}
end
section
variable {X:Cx}
end
end L2
namespace Att
open PySem PySem.W PySem.Calls PyProof.Rows
theorem ints_of_wellAll {P:Params} {h:Heap}:∀ (ns:List Int) (vs:List Value),WellAll P h vs (ns.map WData.int)->IntsAre vs ns:=by
  intro ns
  induction ns with
  | nil=>
    intro vs w
    rw [List.map_nil] at w
    cases w
    exact .nil
  | cons n ns ih=>
    intro vs w
    rw [List.map_cons] at w
    cases w with
    | cons a b=>
      cases a
      exact .cons _ _ (ih _ b)
theorem script_of {l:OpenLaw} {n:Nat} (hn:l.most=some n) {P:Params} {h:Heap} {args:List WData} {vals:List Value}
    (hpre:l.row.toRowW.claim.pre args=true) (hwl:WellAll P h vals args) :
    ∃ a vs ns,vals=[Value.ref a]/\args=[WData.list (ns.map WData.int)]/\h.get? a=some { cls:=.type "list",data:=.seq vs.toArray }/\IntsAre vs ns/\ns.length<=n:=by
  have hsh:WShape.hasAll [] args [.list .int]=true:=(pre_splitW hpre).1
  have hc:l.pre.holds [] { args:=args }=true:=(pre_splitW hpre).2
  obtain ⟨d,r,rfl,h1,h2⟩:=hasAllW_cons hsh
  obtain rfl:=hasAllW_nil h2
  obtain ⟨xs,rfl,h3⟩:=hasW_list h1
  obtain ⟨ns,rfl⟩:=items_int h3
  have hlen:ns.length<=n:=by
    unfold OpenLaw.pre at hc
    have h4:(WTm.not (.lt (.lit (.int (n:Int))) (.len (.arg 0)))).holds [] { args:=[.list (ns.map .int)] }=true:=by
      have h4:=(holds_andW hc).1
      rw [hn] at h4
      exact h4
    have h5:=condW_of h4 (w_not (w_lt w_lit (w_len_list (w_arg rfl))))
    rw [List.length_map] at h5
    refine Nat.le_of_not_lt fun q=>?_
    have q':(n:Int) < ((ns.length:Nat):Int):=by omega
    first
      | (rw [decide_eq_true q'] at h5; exact absurd h5 (by decide))
      | (simp at h5; omega)
  cases hwl with
  | cons w1 w2=>
    cases w2
    cases w1 with
    | list ho hall=>exact ⟨_,_,ns,rfl,rfl,ho,ints_of_wellAll ns _ hall,hlen⟩
theorem post_true (l:OpenLaw) (args:List WData):l.row.toRowW.claim.post args (.bool true) args=true:=
  postW_of (r:=l.row.toRowW) (X:=(true == true))
    (show WShape.has [] (.bool true) .bool=true by first | rfl | decide | simp [WShape.has,WShape.arms,WShape.armsAll])
    (show (WTm.eq .res (.lit (.bool true))).value [] { args:=args,res:=some (.bool true),after:=args }=some (.bool (true == true)) from w_eq_bool (w_res rfl) w_lit) rfl
theorem attach_call {l:OpenLaw} {n:Nat} {q:Program} {loose:List Str} {XP:(Str->Option Value)->Heap->Prop} {YP:World->Heap->Prop} {d:DefRec}
    (hn:l.most=some n) (hdf:d.params.defaults=[])
    (call:∀ (w:World) (s₀ s₁:Shared) (mg mb:Str->Option Value) (fa:Addr) (o:Obj) (pm cd doc:Value) (a:Addr) (vs:List Value) (ns:List Int),
      Ground q loose [] XP w s₀ mg mb s₁.heap->YP w s₁.heap ->
      s₁.heap.get? fa=some o->o.data=.func (docDef d.name d.params d.body d.scope pm cd doc)->s₁.heap.CodeRec cd d.name->mg d.name=some (.ref fa) ->
      s₁.heap.get? a=some { cls:=.type "list",data:=.seq vs.toArray }->IntsAre vs ns->ns.length<=n->s₁.gens=#[] ->
      codeAny (model l.prog w) callerA (.call (.ref fa) ⟨[.ref a],[]⟩) (fun r s'=>r=.ok (.ret (.bool true))/\OldK s₁.heap s'.heap/\s'.os=s₁.os/\AllBare s'.gens) s₁) :
    WalkO q loose XP YP l.row.toRowW d [] (fun f vs=>PySem.call f vs):=by
  intro w s₀ s₁ mg mb G Y fa o pm cd doc dV kV ho hd hcd hD hmg hg args vals as hpre hlay hrd hwl hlo
  obtain rfl:dV=.none:=Dflts.none hD hdf
  obtain rfl:kV=.none:=Dflts.noKw hD
  obtain ⟨a,vs,ns,rfl,rfl,hobj,hints,hlen⟩:=script_of hn hpre hwl
  refine enter_call (codeAny_mono (call w s₀ s₁ mg mb fa o pm cd doc a vs ns G Y ho (fd_plain hd) hcd hmg hobj hints hlen hg) fun r s' hq=>?_)
  obtain ⟨rfl,h2,h3,h4⟩:=hq
  exact ⟨.inl ⟨.bool true,.bool true,[],rfl,fun _=>rfl,.bool true,post_true l _,fun _=>⟨List.Pairwise.nil,fun _ hm=>(nomatch hm)⟩⟩,h2,h3,h4⟩
section
variable {prog:Program} {w:World} {A:Around} {E:Value->Shared->Prop} {s:Shared} {K:Frag}
end
end Att
namespace L2
open PySem PySem.Spec PyProof.Rows
theorem vals_ints:∀ {vs:List Value} {ns:List Int},IntsAre vs ns->Vals (ns.map V.int) vs
  | _,_,.nil=>.nil
  | _,_,.cons n t h=>.cons ⟨t,rfl⟩ (vals_ints h)
def Only (H:Hp):Prop:=∀ b,H b=none\/∃ o xs,H b=some (.frz o (.lst xs))
theorem law_call {P:Program} {w:World} {K:PySem.W.Frag} {mg mb:Str->Option Value} {CX:CXT} {k:Nat} {fa a:Addr} {fd:FuncData} {x:Str} {sp:Sp} {s₁:Shared} {vs:List Value} {ns:List Int}
    (KX:K.In s₁.heap) (hns:s₁.heap.Ns mainGlobals mg) (hb:s₁.heap.Ns builtinsNs mb) (hbb:∀ x:Str,x ≠ "__name__" -> mb x=bootBuiltins x) (hlim:s₁.heap.NoLimit) (hg:s₁.gens=#[])
    (ha:s₁.heap.get? a=some { cls:=.type "list",data:=.seq vs.toArray }) (hi:IntsAre vs ns) (hl:ns.length<=sizeLine) (hr:Room k callerA)
    (F:∀ base:Heap,K.In base->base.Ns mainGlobals mg->FnOk P w K mg base CX k fa fd [x] sp) (hbind:∀ (s:Shared) (u:Value),BindsTo s fd ⟨[u],[]⟩ [(x,u)])
    (hsp:∀ H:Hp,Only H->SqL K H a (ns.map V.int)->sp [.ref a] H (fun v _=>v=.bl true) fun _ _ _=>False)
    (hCX:∀ H e s',CX [] H s₁ (fun _ _ _=>False) e s'->False) :
    codeAny (model P w) callerA (.call (.ref fa) ⟨[.ref a],[]⟩) (fun r s'=>r=.ok (.ret (.bool true))/\OldK s₁.heap s'.heap/\s'.os=s₁.os/\AllBare s'.gens) s₁:=by
  have rv:=vals_ints hi
  have lenV:=hi.length
  have core:∀ H:Hp,Only H->SqL K H a (ns.map V.int)->HOk P w H s₁.heap->(∀ b,H b ≠ none->b=a)->(H a ≠ none->K.lookup a=none) ->
      codeAny (model P w) callerA (.call (.ref fa) ⟨[.ref a],[]⟩) (fun r s'=>r=.ok (.ret (.bool true))/\OldK s₁.heap s'.heap/\s'.os=s₁.os/\AllBare s'.gens) s₁:=by
    intro H hO hS hok hA hK
    have base_of:∀ {b:Addr} {o:Obj},s₁.heap.get? b=some o->H b=none->(hidT s₁.heap H).get? b=some o:=fun e n=>hidT_get e n
    have noA:∀ {b:Addr} {o:Obj} {es:Array DictEntry} {ep:Nat},s₁.heap.get? b=some o->o.data=.dict es ep->H b=none:=fun {b o es ep} e d=>by
      cases q:H b with
      | none=>rfl
      | some u=>
        have e':b=a:=hA b (by rw [q]; simp)
        subst e'
        rw [ha] at e; cases e
        have d':Data.seq vs.toArray _=Data.dict es ep:=d
        cases d'
    have nsK:∀ {b:Addr} {m:Str->Option Value},s₁.heap.Ns b m->(hidT s₁.heap H).Ns b m:=fun {b m} ⟨o,es,ep,e,d,r⟩=>⟨o,es,ep,base_of e (noA e d),d,r⟩
    have hKb:K.In (hidT s₁.heap H):=fun b o e=>base_of (KX b o e) (by
      cases q:H b with
      | none=>rfl
      | some u=>
        have e':b=a:=hA b (by rw [q]; simp)
        subst e'
        rw [hK (by rw [q]; simp)] at e; cases e)
    have hM:Mod K mg (hidT s₁.heap H):=⟨hKb,nsK hns,⟨mb,nsK hb,hbb⟩,let ⟨mc,h1,h2⟩:=hlim; ⟨mc,nsK h1,h2⟩⟩
    have e0:Env0 P w K mg (hidT s₁.heap H) callerA [] s₁ H:=⟨rfl,hM,fun b o e=>of_hidT e,Nat.le_of_eq (hidT_size _ _),trivial,fun b hb=>absurd (show b ∈ ([]:List Addr) from hb) (by simp),hok,.of_eq hg⟩
    refine codeAny_mono ((F _ hKb (nsK hns)).run callerA [] s₁ H ⟨[.ref a],[]⟩ [.ref a] [.ref a] _ _ hr e0 (hbind s₁ (.ref a)) (.cons rfl .nil) (hsp H hO hS)) fun r s' h=>?_
    cases r with
    | error e=>exact (hCX H e s' h).elim
    | ok fl=>
      cases fl with
      | next=>exact False.elim h
      | brk=>exact False.elim h
      | cont=>exact False.elim h
      | ret u=>
        obtain ⟨v,H',os,bare,un,hok',r',q⟩:=h
        have q':v=.bl true:=q
        subst q'
        obtain rfl:u=Value.bool true:=r'
        refine ⟨rfl,OldK.of_keep fun b o e=>?_,os,bare⟩
        cases q:H b with
        | none=>exact un.keep b o e q (by intro z; exact absurd (show b ∈ ([]:List Addr) from z) (by simp)) (by simp)
        | some u=>
          rcases hO b with z | ⟨ob,xs,z⟩
          · rw [q] at z; cases z
          · have z2:=un.frzs b ob _ z
            obtain ⟨e1,_⟩:=hok b _ z
            obtain ⟨e2,_⟩:=hok' b _ z2
            rw [e] at e1; cases e1
            exact e2
  cases hk:K.lookup a with
  | some o=>
    have e:=KX a o hk
    rw [ha] at e
    cases e
    refine core (fun _=>none) (fun _=>.inl rfl) (.inr ⟨_,vs.toArray,_,hk,rfl,rfl,rfl,by rw [List.size_toArray,lenV]; exact hl,by simpa using rv⟩) (fun b u z=>by have z':(none:Option HO)=some u:=z; cases z') (fun b z=>absurd rfl z) fun z=>absurd rfl z
  | none=>
    refine core (fun b=>if b=a then some (.frz { cls:=.type "list",data:=.seq vs.toArray } (.lst (ns.map V.int))) else none) (fun b=>?_) (.inl (.inr ⟨{ cls:=.type "list",data:=.seq vs.toArray },if_pos rfl⟩)) (fun b u z=>?_) (fun b z=>?_) fun _=>hk
    · by_cases hb:b=a
      · exact .inr ⟨_,_,if_pos hb⟩
      · exact .inl (if_neg hb)
    · by_cases hb:b=a
      · have z':=(if_pos hb).symm.trans z
        cases z'
        subst hb
        exact ⟨ha,by rw [List.length_map]; exact hl,vs,_,rv,ha⟩
      · have z':=(if_neg hb).symm.trans z
        cases z'
    · by_cases hb:b=a
      · exact hb
      · exact absurd (if_neg hb) z
end L2
namespace L2
open PySem PySem.Spec PyProof.Rows
theorem walk_of {l:PySem.W.OpenLaw} {n k:Nat} {q:Program} {loose:List Str} {XP:(Str->Option Value)->Heap->Prop} {YP:World->Heap->Prop} {d:DefRec} {K:Params->PySem.W.Frag} {CX:World->CXT} {sp:World->Sp} {x:Str}
    (hn:l.most=some n) (hn2:n<=sizeLine) (hdf:d.params.defaults=[]) (hr:Room k callerA)
    (hY:∀ (w:World) (h:Heap),YP w h->(K w.params).In h)
    (F:∀ (w:World) (mg:Str->Option Value) (fa:Addr) (h:Heap),(K w.params).In h->h.Ns mainGlobals mg->mg d.name=some (.ref fa) ->
      ∃ fd:FuncData,(∀ (s:Shared) (u:Value),BindsTo s fd ⟨[u],[]⟩ [(x,u)]) /\
        ∀ base:Heap,(K w.params).In base->base.Ns mainGlobals mg->FnOk l.prog w (K w.params) mg base (CX w) k fa fd [x] (sp w))
    (hsp:∀ (w:World) (H:Hp) (a:Addr) (ns:List Int),ns.length<=n->Only H->SqL (K w.params) H a (ns.map V.int)->sp w [.ref a] H (fun v _=>v=.bl true) fun _ _ _=>False)
    (hCX:∀ (w:World) (H:Hp) (s:Shared) (e:Value) (s':Shared),CX w [] H s (fun _ _ _=>False) e s'->False) :
    PySem.W.WalkO q loose XP YP l.row.toRowW d [] (fun f vs=>PySem.call f vs):=by
  refine Att.attach_call hn hdf fun w s₀ s₁ mg mb fa o pm cd doc a vs ns G Y ho hd hcd hmg hobj hints hlen hg=>?_
  have KX:=hY w _ Y
  obtain ⟨fd,hb,hF⟩:=F w mg fa _ KX G.T.g hmg
  exact law_call KX G.T.g G.T.b G.T.builtins G.T.nolimit hg hobj hints (Nat.le_trans hlen hn2) hr hF hb (fun H hO hS=>hsp w H a ns hlen hO hS) fun H e s'=>hCX w H s₁ e s'
end L2
namespace L2
open PySem PySem.Spec PyProof.Rows
def defArgs (s:Stmt):Arguments:=match s with
  | .FunctionDef _ a _ _ _ _ _ _ _ _=>a
  | _=>{ posonlyargs:=[],args:=[],vararg:=none,kwonlyargs:=[],kw_defaults:=[],kwarg:=none,defaults:=[] }
def defBody (s:Stmt):List Stmt:=match s with
  | .FunctionDef _ _ b _ _ _ _ _ _ _=>b
  | _=>[]
def Q7 (s:Stmt):Scope:=match s with
  | .FunctionDef _ _ _ _ _ _ sc _ _ _=>sc
  | _=>{ kind:=.function,names:=[],isGenerator:=false,isCoroutine:=false }
abbrev E0:XK:=fun _ _ _=>False
structure Fun (K:PySem.W.Frag) (x qual:Str) (st:Stmt) (f:Addr) (fd:FuncData):Prop where
  ex:∃ (oc:Value) (od:Option Addr) (kV doc pm:Value) (an:Option Addr) (cdv ct:Value) (osl:Array (Option Value)),
    fd=PySem.W.fnOf x qual (defArgs st) (defBody st) (Q7 st) .none kV doc pm an cdv ct/\K.lookup f=some ⟨oc,od,.func fd,osl⟩/\PySem.W.codeIn K cdv qual=true
  kp:PySem.W.keepIn K (.ref f)=true
section
variable {P:Program} {w:World} {K:PySem.W.Frag} {mg:Str->Option Value} {base:Heap}
theorem Fun.binds {x qual:Str} {st:Stmt} {f:Addr} {fd:FuncData} {ps:List Str} (F:Fun K x qual st f fd)
    (h:∀ (kV doc pm:Value) (an:Option Addr) (cdv ct:Value) (us:List Value),us.length=ps.length->bindArgs (PySem.W.fnOf x qual (defArgs st) (defBody st) (Q7 st) .none kV doc pm an cdv ct) ⟨us,[]⟩=pure (ps.zip us)):Binds K fd ps []:=by
  obtain ⟨oc,od,kV,doc,pm,an,cdv,ct,osl,rfl,lk,hcd⟩:=F.ex
  exact .all (h kV doc pm an cdv ct)
theorem fun_mk {x qual:Str} {st:Stmt} {f:Addr} {oc:Value} {od an:Option Addr} {osl:Array (Option Value)} {kV doc pm cdv ct:Value} (l:K.lookup f=some ⟨oc,od,.func (PySem.W.fnOf x qual (defArgs st) (defBody st) (Q7 st) .none kV doc pm an cdv ct),osl⟩)
    (c:PySem.W.codeIn K cdv qual=true) (k:PySem.W.keepIn K (.ref f)=true):Fun K x qual st f (PySem.W.fnOf x qual (defArgs st) (defBody st) (Q7 st) .none kV doc pm an cdv ct):=⟨⟨oc,od,kV,doc,pm,an,cdv,ct,osl,rfl,l,c⟩,k⟩
end
section
variable {X:Cx}
theorem pv (i:Nat) {x:Str} {pos:Pos} (hN:X.N[i]?=some x:=by rfl) (hv:Vis X.env.scope x:=by first | exact Or.inl rfl | exact Or.inr (Or.inl rfl) | exact Or.inr (Or.inr rfl)) (hd:(x == ("__debug__" : Str))=false:=by decide)
    (hcd:(x == ("__classdict__" : Str))=false:=by decide):PE X (.Name x pos) (tVar i):=pe_var hN hv hd hcd
end
theorem iteF {A B:Prop} (h:B):if false=true then A else B:=by
  rw [if_neg Bool.false_ne_true]
  exact h
theorem iteT {A B:Prop} (h:A):if true=true then A else B:=by
  rw [if_pos rfl]
  exact h
def Same (H H':Hp):Prop:=∀ b o,H b=some o->H' b=some o
theorem Same.refl (H:Hp):Same H H:=fun _ _ h=>h
end L2
namespace L2
open PySem PySem.Spec PyProof.Rows
theorem closure_of {scope:Scope} {env:Env} (h:∀ x ∈ scope.names,x.2=.free->∃ c,env.cells.lookup x.1=some c) :
    ∃ cl,closureFor scope env=pure cl/\(∀ x c,cl.lookup x=some c->env.cells.lookup x=some c)/\(∀ x ∈ scope.names,x.2=.free->∃ c,cl.lookup x.1=some c):=by
  have key:∀ (l:List (Str × NameKind)) (acc:List (Str × Addr)),(∀ x ∈ l,x.2=.free->∃ c,env.cells.lookup x.1=some c)->(∀ x c,acc.lookup x=some c->env.cells.lookup x=some c) ->
      ∃ cl,(forIn l acc fun (x:Str × NameKind) (r:List (Str × Addr))=>(match x with
        | (name,kind)=>if (kind == NameKind.free)=true then (do let c <- cellOf env name; pure (ForInStep.yield ((name,c) :: r))) else (do pure PUnit.unit; pure (ForInStep.yield r)):Sem (ForInStep (List (Str × Addr)))))=pure cl /\
        (∀ x c,cl.lookup x=some c->env.cells.lookup x=some c)/\(∀ x ∈ l,x.2=.free->∃ c,cl.lookup x.1=some c)/\(∀ x c,acc.lookup x=some c->∃ c',cl.lookup x=some c'):=by
    intro l
    induction l with
    | nil=>intro acc _ ha; exact ⟨acc,rfl,ha,fun x hx=>(by simp at hx),fun x c e=>⟨c,e⟩⟩
    | cons x r ih=>
      intro acc hl ha
      obtain ⟨n,k⟩:=x
      by_cases hk:k=.free
      · subst hk
        obtain ⟨c,hc⟩:=hl (n,.free) List.mem_cons_self rfl
        have ha':∀ x c',((n,c) :: acc).lookup x=some c'->env.cells.lookup x=some c':=fun x c' e=>by
          rw [List.lookup_cons] at e
          by_cases hx:x=n
          · subst hx; simp at e; rw [<- e]; exact hc
          · have:(x == n)=false:=by simpa using hx
            rw [this] at e; exact ha x c' e
        obtain ⟨cl,e1,e2,e3,e4⟩:=ih ((n,c) :: acc) (fun y hy=>hl y (List.mem_cons_of_mem _ hy)) ha'
        refine ⟨cl,?_,e2,fun y hy hf=>?_,fun y c' e=>?_⟩
        · rw [List.forIn_cons]
          have hcell:cellOf env n=pure c:=by unfold cellOf; rw [hc]
          simp only [beq_self_eq_true,if_true,hcell]
          exact e1
        · rcases List.mem_cons.mp hy with e | hy
          · subst e
            exact e4 n c (by simp)
          · exact e3 y hy hf
        · by_cases hy:y=n
          · subst hy; exact e4 y c (by simp)
          · have:(y == n)=false:=by simpa using hy
            exact e4 y c' (by rw [List.lookup_cons,this]; exact e)
      · obtain ⟨cl,e1,e2,e3,e4⟩:=ih acc (fun y hy=>hl y (List.mem_cons_of_mem _ hy)) ha
        refine ⟨cl,?_,e2,fun y hy hf=>?_,e4⟩
        · rw [List.forIn_cons]
          have:(k == NameKind.free)=false:=by simpa using hk
          simp only [this,Bool.false_eq_true,if_false]
          exact e1
        · rcases List.mem_cons.mp hy with e | hy
          · subst e; exact absurd hf hk
          · exact e3 y hy hf
  obtain ⟨cl,e1,e2,e3,_⟩:=key scope.names [] h (fun x c e=>by simp at e)
  refine ⟨cl,?_,e2,e3⟩
  unfold closureFor
  exact (congrArg (fun z=>z >>= pure) e1).trans rfl
theorem lookup_relab (f:Str->NameKind->NameKind) (x:Str):∀ l:List (Str × NameKind),(l.map fun y=>(y.1,f y.1 y.2)).lookup x=(l.lookup x).map (f x)
  | []=>rfl
  | (n,k) :: r=>by
    have ih:=lookup_relab f x r
    rw [List.map_cons,List.lookup_cons,List.lookup_cons]
    by_cases hx:x=n
    · subst hx; simp
    · have hb:(x == n)=false:=by simpa using hx
      rw [hb]; exact ih
theorem relabel_lookup {scope:Scope} {env:Env} {x:Str}:(relabel scope env).names.lookup x =
    (scope.names.lookup x).map fun k=>if (k == .free && env.scope.kind == .function && env.kindOf x == some .cell) then .cell else k:=by
  rw [<- lookup_relab (fun n k=>if (k == .free && env.scope.kind == .function && env.kindOf n == some .cell) then .cell else k)]
  unfold relabel
  refine congrArg (List.lookup x) (List.map_congr_left fun y _=>?_)
  obtain ⟨n,k⟩:=y
  show (if (k == NameKind.free && env.scope.kind == .function && env.kindOf n == some .cell)=true then (n,NameKind.cell) else (n,k))=_
  split <;> rfl
def compOk (N N':List Str) (sc scE:Scope) (cap:List (Option Nat)):Bool:=
  sc.kind == .function && sc.names.all (fun x=>x.2 != .cell) && sc.names.all (fun x=>x.2 != .local || sc.names.lookup x.1 == some .local) &&
  sc.names.all (fun x=>x.2 != .free || scE.names.lookup x.1 == some .cell || scE.names.lookup x.1 == some .free) && cap.length == N'.length &&
  (List.range cap.length).all (fun i=>match cap[i]? with
    | some (some j)=>(match N'[i]?,N[j]? with | some a,some b=>a == b && sc.names.lookup a == some .free | _,_=>false)
    | _=>true)
def capOf (cap:List (Option Nat)) (σ:St):St:=cap.map fun c=>c.bind fun j=>(σ[j]?).join
section
variable {prog:Program} {w:World} {A:Around} {R:Result->Shared->Prop} {s:Shared}
end
section
variable {X:Cx}
theorem HOk.same {P:Program} {w:World} {H:Hp} {h h':Heap} {a:Addr} (ok:HOk P w H h) (hn:H a=none) (hs:Heap.SameBut a h h'):HOk P w H h':=fun b ob e=>by
  refine (ok b ob e).stay (fun c w' hc q=>(hs.2 c ?_).trans q) (fun _ q=>q) fun _ _ q=>q
  rintro rfl
  rcases hc with rfl | hc
  · rw [hn] at e; cases e
  · rw [hn] at hc; cases hc
end
end L2
namespace L2
open PySem PySem.Spec PyProof.Rows
def HasItems (t:Bool) (h:Heap) (a:Addr) (items:Array Value):Prop:=if t=true then h.IsTuple a items else h.IsList a items
def IterAt (t:Bool) (h:Heap) (it a:Addr) (i:Nat):Prop:=if t=true then h.IsTupleIter it a i else h.IsListIter it a i
theorem HasItems.at {t:Bool} {h h':Heap} {a:Addr} {items:Array Value} (x:HasItems t h a items) (k:∀ o,h.get? a=some o->h'.get? a=some o):HasItems t h' a items:=by
  cases t
  · exact Heap.IsList.at x k
  · obtain ⟨o,e,r⟩:=x
    exact ⟨o,k o e,r⟩
theorem HasItems.there {t:Bool} {h:Heap} {a:Addr} {items:Array Value} (x:HasItems t h a items):∃ o,h.get? a=some o:=by
  cases t
  · obtain ⟨o,e,_⟩:=x; exact ⟨o,e⟩
  · obtain ⟨o,e,_⟩:=x; exact ⟨o,e⟩
theorem IterAt.at {t:Bool} {h h':Heap} {it a:Addr} {i:Nat} (x:IterAt t h it a i) (k:∀ o,h.get? it=some o->h'.get? it=some o):IterAt t h' it a i:=by
  cases t
  · exact Heap.IsListIter.at x k
  · obtain ⟨o,e,r⟩:=x
    exact ⟨o,k o e,r⟩
theorem IterAt.there {t:Bool} {h:Heap} {it a:Addr} {i:Nat} (x:IterAt t h it a i):∃ o,h.get? it=some o/\∀ v,o.data ≠ .cell v:=by
  cases t
  · obtain ⟨o,e,_,d⟩:=x; exact ⟨o,e,fun v z=>by rw [d] at z; cases z⟩
  · obtain ⟨o,e,_,d⟩:=x; exact ⟨o,e,fun v z=>by rw [d] at z; cases z⟩
section
variable {prog:Program} {w:World} {A:Around} {E:Value->Shared->Prop} {s:Shared}
theorem nextOf_tuple_item {it l:Addr} {i:Nat} {items} {x:Value} {Q:Value->Shared->Prop} (hit:s.heap.IsTupleIter it l i)
    (hl:s.heap.IsTuple l items) (hx:items[i]?=some x)
    (hQ:∀ h',h'.IsTupleIter it l (i + 1)->Heap.SameBut it s.heap h'->Q x { s with heap:=h' }) :
    wpAny (model prog w) A (Builtin.SmallTypes.nextOf (.ref it)) Q E s:=by
  obtain ⟨o,ho,hc,hd⟩:=id hit
  obtain ⟨ol,hol,_,nl,hdl⟩:=hl
  unfold Builtin.SmallTypes.nextOf
  refine wpAny_bind (wpAny_callSpecial?_slot (name:=Str.ofString "__next__") hit.typeIs F.slot_tuple_iterator_next
    (wpAny_call_entry F.slot_tuple_iterator_next hit.typeIs F.entry_tuple_iterator_next ?_ (F.args_tuple_iterator_next_1 _)))
  show wpAny _ _ (field (.ref it) 0 >>= _) _ _ s
  refine wpAny_bind (wpAny_field ho hd (x:=.ref l) rfl ?_)
  show wpAny _ _ (if (Value.ref l == Value.none)=true then _ else _) _ _ s
  rw [if_neg (show ¬ ((Value.ref l == Value.none)=true) from Bool.false_ne_true)]
  show wpAny _ _ (field (.ref it) 1 >>= _) _ _ s
  refine wpAny_bind (wpAny_field ho hd (x:=.int i 0) rfl ?_)
  show wpAny _ _ (seqItems? (.ref l) >>= _) _ _ s
  refine wpAny_bind (wpAny_seqItems hol hdl ?_)
  simp only [Int.toNat_natCast,hx]
  refine wpAny_bind (wpAny_setField ho hd (by simp) (wpAny_pure ⟨x,rfl,wpAny_pure (hQ _ ?_ (Heap.SameBut.update ..))⟩))
  exact ⟨_,Heap.get?_update_self _ ho (Obj.isFreed_of_fields (Obj.data_mapFields hd _)),(Obj.cls_mapFields ..).trans hc,by
    rw [Obj.data_mapFields hd]; simp [rawInt]⟩
theorem nextOf_tuple_end {it l:Addr} {i:Nat} {items} {Q:Value->Shared->Prop} (hh:A.handled=none)
    (hit:s.heap.IsTupleIter it l i) (hl:s.heap.IsTuple l items) (hx:items[i]?=none)
    (hE:∀ h' e,Heap.ExtBut it s.heap h'->(∃ o,h'.get? e=some o/\o.cls=.type "StopIteration")->E (.ref e) { s with heap:=h' }) :
    wpAny (model prog w) A (Builtin.SmallTypes.nextOf (.ref it)) Q E s:=by
  obtain ⟨o,ho,hc,hd⟩:=id hit
  obtain ⟨ol,hol,_,nl,hdl⟩:=hl
  unfold Builtin.SmallTypes.nextOf
  refine wpAny_bind (wpAny_callSpecial?_slot (name:=Str.ofString "__next__") hit.typeIs F.slot_tuple_iterator_next
    (wpAny_call_entry F.slot_tuple_iterator_next hit.typeIs F.entry_tuple_iterator_next ?_ (F.args_tuple_iterator_next_1 _)))
  show wpAny _ _ (field (.ref it) 0 >>= _) _ _ s
  refine wpAny_bind (wpAny_field ho hd (x:=.ref l) rfl ?_)
  show wpAny _ _ (if (Value.ref l == Value.none)=true then _ else _) _ _ s
  rw [if_neg (show ¬ ((Value.ref l == Value.none)=true) from Bool.false_ne_true)]
  show wpAny _ _ (field (.ref it) 1 >>= _) _ _ s
  refine wpAny_bind (wpAny_field ho hd (x:=.int i 0) rfl ?_)
  show wpAny _ _ (seqItems? (.ref l) >>= _) _ _ s
  refine wpAny_bind (wpAny_seqItems hol hdl ?_)
  simp only [Int.toNat_natCast,hx]
  refine wpAny_bind (wpAny_rule (wpAny_bind (wpAny_setField ho hd (by simp) ?_)))
  show wpAny _ _ (newExc (.type "StopIteration") [] >>= _) _ _ _
  refine wpAny_bind ?_
  simp only [newExc,newTuple]
  refine wpAny_bind (wpAny_newObj_type ?_ (by size_fits))
  refine wpAny_bind (m:=firstArgMember _ _) (wpAny_of_eq (a:=Value.none) (by first | rfl | (simp only [firstArgMember]; rfl)) ?_)
  refine wpAny_newObj_type ?_ (by size_fits)
  simp only [raiseNew]
  refine wpAny_bind (wpAny_handled ?_)
  first | rw [show A.in1.handled=none from hh] | rw [hh]
  refine wpAny_bind (wpAny_pure (wpAny_throw ?_))
  exact hE _ _ (((Heap.SameBut.update ..).extBut.push _).push _) ⟨_,Heap.get?_push_size _ rfl,rfl⟩
theorem nextOf_item {t:Bool} {it l:Addr} {i:Nat} {items:Array Value} {x:Value} {Q:Value->Shared->Prop} (hit:IterAt t s.heap it l i)
    (hl:HasItems t s.heap l items) (hx:items[i]?=some x)
    (hQ:∀ h',IterAt t h' it l (i + 1)->Heap.SameBut it s.heap h'->Q x { s with heap:=h' }) :
    wpAny (model prog w) A (Builtin.SmallTypes.nextOf (.ref it)) Q E s:=by
  cases t
  · exact wpAny_nextOf_list_item hit hl hx hQ
  · exact nextOf_tuple_item hit hl hx hQ
theorem nextOf_end {t:Bool} {it l:Addr} {i:Nat} {items:Array Value} {Q:Value->Shared->Prop} (hh:A.handled=none)
    (hit:IterAt t s.heap it l i) (hl:HasItems t s.heap l items) (hx:items[i]?=none)
    (hE:∀ h' e,Heap.ExtBut it s.heap h'->(∃ o,h'.get? e=some o/\o.cls=.type "StopIteration")->E (.ref e) { s with heap:=h' }) :
    wpAny (model prog w) A (Builtin.SmallTypes.nextOf (.ref it)) Q E s:=by
  cases t
  · exact wpAny_nextOf_list_end hh hit hl hx hE
  · exact nextOf_tuple_end hh hit hl hx hE
def iterObj (t:Bool) (l:Addr):Obj:=if t=true then { cls:=.type "tuple_iterator",data:=.fields #[.ref l,.int 0 0] } else { cls:=.type "list_iterator",data:=.fields #[.ref l,.int 0 0] }
theorem pyIter_seq {t:Bool} {l:Addr} {items:Array Value} {Q:Value->Shared->Prop} (hl:HasItems t s.heap l items)
    (hQ:Q (.ref s.heap.objs.size) { s with heap:=s.heap.push (iterObj t l) }):wpAny (model prog w) A (pyIter (.ref l)) Q E s:=by
  cases t
  · exact wpAny_pyIter_list hl hQ
  · exact wpAny_pyIter_tuple hl hQ
theorem iterObj_at {t:Bool} {h:Heap} {it l:Addr} (e:h.get? it=some (iterObj t l)):IterAt t h it l 0:=by
  cases t
  · exact ⟨_,e,rfl,rfl⟩
  · exact ⟨_,e,rfl,rfl⟩
theorem iterObj_free (t:Bool) (l:Addr):(iterObj t l).isFreed=false:=by cases t <;> rfl
theorem zipG_item {t1 t2:Bool} {z TI TO i1 i2 l1 l2:Addr} {k1 k2:Nat} {xs ys:Array Value} {x y a b:Value} {Q:Value->Shared->Prop} (D:ZipApart z TI TO i1 i2 l1 l2)
    (hz:IsZip s.heap z TI TO .none) (hTI:IsPair s.heap TI (.ref i1) (.ref i2)) (hTO:IsPair s.heap TO a b)
    (h1:IterAt t1 s.heap i1 l1 k1) (h2:IterAt t2 s.heap i2 l2 k2) (hl1:HasItems t1 s.heap l1 xs) (hl2:HasItems t2 s.heap l2 ys) (hx:xs[k1]?=some x) (hy:ys[k2]?=some y)
    (hQ:∀ h',IsZip h' z TI TO (rawInt s.heap.objs.size)->IsPair h' TO x y->IterAt t1 h' i1 l1 (k1 + 1)->IterAt t2 h' i2 l2 (k2 + 1)->IsPair h' s.heap.objs.size x y->h'.objs.size=s.heap.objs.size + 1 ->
      (∀ c o,c ≠ z->c ≠ TO->c ≠ i1->c ≠ i2->s.heap.get? c=some o->h'.get? c=some o)->Q (.ref s.heap.objs.size) { s with heap:=h' }) :
    wpAny (model prog w) A (Builtin.«zip.__next__» ⟨[.ref z],[]⟩) (fun fin s'=>∃ v,fin=.done (.ret v)/\Q v s') E s:=by
  show wpAny _ _ (field (.ref z) 2 >>= _) _ _ _
  refine wpAny_bind (wpAny_field hz rfl (x:=.bool false) rfl ?_)
  show wpAny _ _ (field (.ref z) 3 >>= _) _ _ _
  refine wpAny_bind (wpAny_field hz rfl (x:=.ref TI) rfl ?_)
  refine wpAny_bind (wpAny_seqItems hTI rfl ?_)
  show wpAny _ _ (Builtin.SmallTypes.ownedTupleIsFree (.ref z) >>= _) _ _ _
  refine wpAny_bind ?_
  unfold Builtin.SmallTypes.ownedTupleIsFree
  refine wpAny_bind (wpAny_field hz rfl (x:=.none) rfl (wpAny_pure ?_))
  simp only [if_true]
  refine wpAny_bind (wpAny_rule ?_)
  refine wpAny_bind (wpAny_field hz rfl (x:=.ref TO) rfl ?_)
  refine wpAny_bind (wpAny_setField_rec hz (by simp) fun h₁ hz₁ hs₁=>?_)
  replace hz₁:IsZip h₁ z TI TO .ellipsis:=hz₁
  refine wpAny_bind ?_
  simp only [List.zipIdx_cons,List.zipIdx_nil,List.forIn_cons,List.forIn_nil]
  refine wpAny_bind (wpAny_bind (wpAny_onRaise ?_))
  show wpAny _ _ (Builtin.SmallTypes.nextOf (.ref i1) >>= _) _ _ _
  refine wpAny_bind (nextOf_item (h1.at fun o e=>hs₁.extBut _ _ D.i1z e) (hl1.at fun o e=>hs₁.extBut _ _ D.l1z e) hx fun h₂ h1₂ hs₂=>wpAny_pure ?_)
  have hTO₂:IsPair h₂ TO a b:=hs₂.extBut _ _ D.TOi1 (hs₁.extBut _ _ D.TOz hTO)
  refine wpAny_bind (wpAny_seqItems hTO₂ rfl ?_)
  refine wpAny_bind (wpAny_updateSeq_pair hTO₂ fun h₃ hTO₃ hs₃=>?_)
  replace hTO₃:IsPair h₃ TO x b:=hTO₃
  refine wpAny_bind (wpAny_letGo (wpAny_pure ?_))
  refine wpAny_bind (wpAny_bind (wpAny_onRaise ?_))
  show wpAny _ _ (Builtin.SmallTypes.nextOf (.ref i2) >>= _) _ _ _
  refine wpAny_bind (nextOf_item (h2.at fun o e=>hs₃.extBut _ _ D.TOi2.symm (hs₂.extBut _ _ D.i12.symm (hs₁.extBut _ _ D.i2z e)))
    (hl2.at fun o e=>hs₃.extBut _ _ D.l2TO (hs₂.extBut _ _ D.l2i1 (hs₁.extBut _ _ D.l2z e))) hy fun h₄ h2₄ hs₄=>wpAny_pure ?_)
  have hTO₄:IsPair h₄ TO x b:=hs₄.extBut _ _ D.TOi2 hTO₃
  refine wpAny_bind (wpAny_seqItems hTO₄ rfl ?_)
  refine wpAny_bind (wpAny_updateSeq_pair hTO₄ fun h₅ hTO₅ hs₅=>?_)
  replace hTO₅:IsPair h₅ TO x y:=hTO₅
  refine wpAny_bind (wpAny_letGo (wpAny_pure (wpAny_pure ?_)))
  refine wpAny_bind (wpAny_seqItems hTO₅ rfl ?_)
  refine wpAny_bind (wpAny_newTuple ?_)
  have hsz:h₅.objs.size=s.heap.objs.size:=by rw [hs₅.1,hs₄.1,hs₃.1,hs₂.1,hs₁.1]
  have hz₅:IsZip h₅ z TI TO .ellipsis:=hs₅.extBut _ _ D.TOz.symm (hs₄.extBut _ _ D.i2z.symm (hs₃.extBut _ _ D.TOz.symm (hs₂.extBut _ _ D.i1z.symm hz₁)))
  have hk₅:∀ c o,c ≠ z->c ≠ TO->c ≠ i1->c ≠ i2->s.heap.get? c=some o->h₅.get? c=some o:=fun c o c1 c2 c3 c4 e=>
    hs₅.extBut _ _ c2 (hs₄.extBut _ _ c4 (hs₃.extBut _ _ c2 (hs₂.extBut _ _ c3 (hs₁.extBut _ _ c1 e))))
  have h1₅:IterAt t1 h₅ i1 l1 (k1 + 1):=h1₂.at fun o e=>hs₅.extBut _ _ D.TOi1.symm (hs₄.extBut _ _ D.i12 (hs₃.extBut _ _ D.TOi1.symm e))
  have h2₅:IterAt t2 h₅ i2 l2 (k2 + 1):=h2₄.at fun o e=>hs₅.extBut _ _ D.TOi2.symm e
  have hzlt:z < h₅.objs.size:=Heap.lt_size hz₅
  show wpAny _ _ (Builtin.SmallTypes.ownedTupleHandOut (.ref z) (.ref h₅.objs.size) >>= _) _ _ _
  refine wpAny_bind ?_
  unfold Builtin.SmallTypes.ownedTupleHandOut
  have hz₆:IsZip (h₅.push { cls:=.type "tuple",data:=.seq #[x,y] }) z TI TO .ellipsis:=Heap.get?_push_of_some _ hz₅
  refine wpAny_bind (wpAny_setField_rec hz₆ (by simp) fun h₇ hz₇ hs₇=>?_)
  replace hz₇:IsZip h₇ z TI TO (rawInt h₅.objs.size):=hz₇
  refine wpAny_setField_rec hz₇ (by simp) fun h₈ hz₈ hs₈=>?_
  replace hz₈:IsZip h₈ z TI TO (rawInt h₅.objs.size):=hz₈
  have up:∀ c o,c ≠ z->h₅.get? c=some o->h₈.get? c=some o:=fun c o c1 e=>hs₈.extBut _ _ c1 (hs₇.extBut _ _ c1 (Heap.get?_push_of_some _ e))
  have hT₈:IsPair h₈ h₅.objs.size x y:=hs₈.extBut _ _ (Nat.ne_of_gt hzlt) (hs₇.extBut _ _ (Nat.ne_of_gt hzlt) (Heap.get?_push_size _ rfl))
  have hz8:h₈.objs.size=h₅.objs.size + 1:=by rw [hs₈.1,hs₇.1,Heap.size_push]
  rw [hsz] at hz₈ hT₈ hz8
  refine wpAny_pure ⟨_,rfl,?_⟩
  show Q (.ref h₅.objs.size) _
  rw [hsz]
  exact hQ h₈ hz₈ (up _ _ D.TOz hTO₅) (h1₅.at fun o e=>up _ o D.i1z e) (h2₅.at fun o e=>up _ o D.i2z e) hT₈ hz8 fun c o c1 c2 c3 c4 e=>up c o c1 (hk₅ c o c1 c2 c3 c4 e)
theorem zipG_end {t1 t2:Bool} {z TI TO i1 i2 l1 l2:Addr} {k1 k2:Nat} {xs ys:Array Value} {a b:Value} {Q:Fin->Shared->Prop} (hh:A.handled=none) (D:ZipApart z TI TO i1 i2 l1 l2)
    (hz:IsZip s.heap z TI TO .none) (hTI:IsPair s.heap TI (.ref i1) (.ref i2)) (hTO:IsPair s.heap TO a b)
    (h1:IterAt t1 s.heap i1 l1 k1) (h2:IterAt t2 s.heap i2 l2 k2) (hl1:HasItems t1 s.heap l1 xs) (hl2:HasItems t2 s.heap l2 ys) (hend:xs[k1]?=none\/ys[k2]?=none)
    (hE:∀ h' e,(∀ c o,c ≠ z->c ≠ TO->c ≠ i1->c ≠ i2->s.heap.get? c=some o->h'.get? c=some o)->(∃ o,h'.get? e=some o/\o.cls=.type "StopIteration")->E (.ref e) { s with heap:=h' }) :
    wpAny (model prog w) A (Builtin.«zip.__next__» ⟨[.ref z],[]⟩) Q E s:=by
  show wpAny _ _ (field (.ref z) 2 >>= _) _ _ _
  refine wpAny_bind (wpAny_field hz rfl (x:=.bool false) rfl ?_)
  show wpAny _ _ (field (.ref z) 3 >>= _) _ _ _
  refine wpAny_bind (wpAny_field hz rfl (x:=.ref TI) rfl ?_)
  refine wpAny_bind (wpAny_seqItems hTI rfl ?_)
  show wpAny _ _ (Builtin.SmallTypes.ownedTupleIsFree (.ref z) >>= _) _ _ _
  refine wpAny_bind ?_
  unfold Builtin.SmallTypes.ownedTupleIsFree
  refine wpAny_bind (wpAny_field hz rfl (x:=.none) rfl (wpAny_pure ?_))
  simp only [if_true]
  refine wpAny_bind (wpAny_rule ?_)
  refine wpAny_bind (wpAny_field hz rfl (x:=.ref TO) rfl ?_)
  refine wpAny_bind (wpAny_setField_rec hz (by simp) fun h₁ hz₁ hs₁=>?_)
  replace hz₁:IsZip h₁ z TI TO .ellipsis:=hz₁
  refine wpAny_bind ?_
  simp only [List.zipIdx_cons,List.zipIdx_nil,List.forIn_cons,List.forIn_nil]
  refine wpAny_bind (wpAny_bind (wpAny_onRaise ?_))
  show wpAny _ _ (Builtin.SmallTypes.nextOf (.ref i1) >>= _) _ _ _
  cases hx:xs[k1]? with
  | none=>
    refine wpAny_bind (nextOf_end hh (h1.at fun o e=>hs₁.extBut _ _ D.i1z e) (hl1.at fun o e=>hs₁.extBut _ _ D.l1z e) hx fun h₂ e hs₂ he=>?_)
    obtain ⟨oe,hoe,hce⟩:=he
    have hz₂:IsZip h₂ z TI TO .ellipsis:=hs₂ _ _ D.i1z.symm hz₁
    have hez:e ≠ z:=fun x=>by subst x; rw [hz₂] at hoe; cases hoe; simp at hce
    refine wpAny_setField_rec hz₂ (by simp) fun h₃ _ hs₃=>hE h₃ e (fun c o c1 _ c3 _ x=>hs₃.extBut _ _ c1 (hs₂ _ _ c3 (hs₁.extBut _ _ c1 x))) ⟨oe,hs₃.extBut _ _ hez hoe,hce⟩
  | some x=>
    have hy:ys[k2]?=none:=by rcases hend with h | h; rw [hx] at h; cases h; exact h
    refine wpAny_bind (nextOf_item (h1.at fun o e=>hs₁.extBut _ _ D.i1z e) (hl1.at fun o e=>hs₁.extBut _ _ D.l1z e) hx fun h₂ h1₂ hs₂=>wpAny_pure ?_)
    have hTO₂:IsPair h₂ TO a b:=hs₂.extBut _ _ D.TOi1 (hs₁.extBut _ _ D.TOz hTO)
    refine wpAny_bind (wpAny_seqItems hTO₂ rfl ?_)
    refine wpAny_bind (wpAny_updateSeq_pair hTO₂ fun h₃ hTO₃ hs₃=>?_)
    refine wpAny_bind (wpAny_letGo (wpAny_pure ?_))
    refine wpAny_bind (wpAny_bind (wpAny_onRaise ?_))
    show wpAny _ _ (Builtin.SmallTypes.nextOf (.ref i2) >>= _) _ _ _
    refine wpAny_bind (nextOf_end hh (h2.at fun o e=>hs₃.extBut _ _ D.TOi2.symm (hs₂.extBut _ _ D.i12.symm (hs₁.extBut _ _ D.i2z e)))
      (hl2.at fun o e=>hs₃.extBut _ _ D.l2TO (hs₂.extBut _ _ D.l2i1 (hs₁.extBut _ _ D.l2z e))) hy fun h₄ e hs₄ he=>?_)
    obtain ⟨oe,hoe,hce⟩:=he
    have hz₄:IsZip h₄ z TI TO .ellipsis:=hs₄ _ _ D.i2z.symm (hs₃.extBut _ _ D.TOz.symm (hs₂.extBut _ _ D.i1z.symm hz₁))
    have hez:e ≠ z:=fun x=>by subst x; rw [hz₄] at hoe; cases hoe; simp at hce
    refine wpAny_setField_rec hz₄ (by simp) fun h₅ _ hs₅=>hE h₅ e (fun c o c1 c2 c3 c4 x=>hs₅.extBut _ _ c1 (hs₄ _ _ c4 (hs₃.extBut _ _ c2 (hs₂.extBut _ _ c3 (hs₁.extBut _ _ c1 x))))) ⟨oe,hs₅.extBut _ _ hez hoe,hce⟩
theorem next_zipG_item {t1 t2:Bool} {z TI TO i1 i2 l1 l2:Addr} {k1 k2:Nat} {xs ys:Array Value} {x y a b:Value} {Q:Option Value->Shared->Prop} (D:ZipApart z TI TO i1 i2 l1 l2)
    (hz:IsZip s.heap z TI TO .none) (hTI:IsPair s.heap TI (.ref i1) (.ref i2)) (hTO:IsPair s.heap TO a b)
    (h1:IterAt t1 s.heap i1 l1 k1) (h2:IterAt t2 s.heap i2 l2 k2) (hl1:HasItems t1 s.heap l1 xs) (hl2:HasItems t2 s.heap l2 ys) (hx:xs[k1]?=some x) (hy:ys[k2]?=some y)
    (hQ:∀ h',IsZip h' z TI TO (rawInt s.heap.objs.size)->IsPair h' TO x y->IterAt t1 h' i1 l1 (k1 + 1)->IterAt t2 h' i2 l2 (k2 + 1)->IsPair h' s.heap.objs.size x y->h'.objs.size=s.heap.objs.size + 1 ->
      (∀ c o,c ≠ z->c ≠ TO->c ≠ i1->c ≠ i2->s.heap.get? c=some o->h'.get? c=some o)->Q (some (.ref s.heap.objs.size)) { s with heap:=h' }) :
    wpAny (model prog w) A (pyNext (.ref z)) Q E s:=by
  have hT:s.TypeIs (.ref z) "zip" := ⟨_,hz,rfl⟩
  unfold pyNext
  exact wpAny_bind (wpAny_attempt (wpAny_callSpecial?_slot (name:=Str.ofString "__next__") hT F.slot_zip_next
    (wpAny_call_entry F.slot_zip_next hT F.entry_zip_next
      (zipG_item D hz hTI hTO h1 h2 hl1 hl2 hx hy fun h' a1 a2 a3 a4 a5 a6 a7=>wpAny_pure (hQ h' a1 a2 a3 a4 a5 a6 a7)) (F.args_zip_next_1 _))))
theorem next_zipG_end {t1 t2:Bool} {z TI TO i1 i2 l1 l2:Addr} {k1 k2:Nat} {xs ys:Array Value} {a b:Value} {Q:Option Value->Shared->Prop} (hh:A.handled=none) (D:ZipApart z TI TO i1 i2 l1 l2)
    (hz:IsZip s.heap z TI TO .none) (hTI:IsPair s.heap TI (.ref i1) (.ref i2)) (hTO:IsPair s.heap TO a b)
    (h1:IterAt t1 s.heap i1 l1 k1) (h2:IterAt t2 s.heap i2 l2 k2) (hl1:HasItems t1 s.heap l1 xs) (hl2:HasItems t2 s.heap l2 ys) (hend:xs[k1]?=none\/ys[k2]?=none)
    (hQ:∀ h',(∀ c o,c ≠ z->c ≠ TO->c ≠ i1->c ≠ i2->s.heap.get? c=some o->h'.get? c=some o)->Q none { s with heap:=h' }):wpAny (model prog w) A (pyNext (.ref z)) Q E s:=by
  have hT:s.TypeIs (.ref z) "zip" := ⟨_,hz,rfl⟩
  unfold pyNext
  refine wpAny_bind (wpAny_attempt (wpAny_callSpecial?_slot (name:=Str.ofString "__next__") hT F.slot_zip_next
    (wpAny_call_entry F.slot_zip_next hT F.entry_zip_next (zipG_end hh D hz hTI hTO h1 h2 hl1 hl2 hend fun h' e hk he=>?_) (F.args_zip_next_1 _))))
  obtain ⟨o,ho,hc⟩:=he
  refine wpAny_bind (wpAny_isInstance (T := "StopIteration") (b:=true) ⟨o,ho,hc⟩ isSubtype_stop ?_)
  exact wpAny_pure (hQ _ hk)
end
def zH1 (t1:Bool) (h:Heap) (l1:Addr):Heap:=h.push (iterObj t1 l1)
def zH2 (t1 t2:Bool) (h:Heap) (l1 l2:Addr):Heap:=(zH1 t1 h l1).push (iterObj t2 l2)
def zH3 (t1 t2:Bool) (h:Heap) (l1 l2:Addr):Heap:=(zH2 t1 t2 h l1 l2).push { cls:=.type "tuple",data:=.seq #[.ref h.objs.size,.ref (zH1 t1 h l1).objs.size] }
def zH4 (t1 t2:Bool) (h:Heap) (l1 l2:Addr):Heap:=(zH3 t1 t2 h l1 l2).push { cls:=.type "tuple",data:=.seq #[.none,.none] }
def zH5 (t1 t2:Bool) (h:Heap) (l1 l2:Addr):Heap:=(zH4 t1 t2 h l1 l2).push { cls:=.type "zip",data:=.fields #[.none,.bool false,.bool false,.ref (zH2 t1 t2 h l1 l2).objs.size,.ref (zH3 t1 t2 h l1 l2).objs.size] }
theorem meets_zipG_new (t1 t2:Bool) (l1 l2:Addr) (xs ys:Array Value) :
    Meets (Builtin.«zip.__new__» ⟨[.type "zip",.ref l1,.ref l2],[]⟩) (fun _ R s=>HasItems t1 s.heap l1 xs/\HasItems t2 s.heap l2 ys /\
      R (.ok (.ret (.ref (zH4 t1 t2 s.heap l1 l2).objs.size))) { s with heap:=zH5 t1 t2 s.heap l1 l2 }):=
  .of_wp fun prog w A R s h=>by
    obtain ⟨hp,g,d,tk,os⟩:=s; obtain ⟨hl1,hl2,h⟩:=h
    have hsub:=sub_zip
    have hL1:HasItems t1 (Shared.heap ⟨hp,g,d,tk,os⟩) l1 xs:=hl1
    have hL2:HasItems t2 (Shared.heap ⟨hp.push (iterObj t1 l1),g,d,tk,os⟩) l2 ys:=hl2.at fun o e=>Heap.get?_push_of_some _ e
    wp_walk using pyIter_seq hL1,pyIter_seq hL2
    exact ⟨_,rfl,h⟩
section
variable {prog:Program} {w:World} {A:Around} {E:Value->Shared->Prop} {s:Shared}
theorem call_zipG {t1 t2:Bool} {l1 l2:Addr} {xs ys:Array Value} {Q:Value->Shared->Prop} (hl1:HasItems t1 s.heap l1 xs) (hl2:HasItems t2 s.heap l2 ys)
    (h:∀ h',IsZip h' (s.heap.objs.size + 4) (s.heap.objs.size + 2) (s.heap.objs.size + 3) .none->IsPair h' (s.heap.objs.size + 2) (.ref s.heap.objs.size) (.ref (s.heap.objs.size + 1)) ->
      IsPair h' (s.heap.objs.size + 3) .none .none->IterAt t1 h' s.heap.objs.size l1 0->IterAt t2 h' (s.heap.objs.size + 1) l2 0->h'.objs.size=s.heap.objs.size + 5 ->
      (∀ c o,s.heap.get? c=some o->h'.get? c=some o)->Q (.ref (s.heap.objs.size + 4)) { s with heap:=h' }) :
    wpAny (model prog w) A (call (.type "zip") [.ref l1,.ref l2]) Q E s:=by
  refine callType_new F.called_zip (by decide) (F.typeCall_zip_2 _ _) (F.newCall_zip_2 _ _) (fun obj=>F.args_object_init_3 obj _ _) F.entry_zip_new
    (meets_zipG_new t1 t2 l1 l2 xs ys) ⟨hl1,hl2,?_⟩
  have z1:(zH1 t1 s.heap l1).objs.size=s.heap.objs.size + 1:=Heap.size_push ..
  have z2:(zH2 t1 t2 s.heap l1 l2).objs.size=s.heap.objs.size + 2:=by unfold zH2; rw [Heap.size_push,z1]
  have z3:(zH3 t1 t2 s.heap l1 l2).objs.size=s.heap.objs.size + 3:=by unfold zH3; rw [Heap.size_push,z2]
  have z4:(zH4 t1 t2 s.heap l1 l2).objs.size=s.heap.objs.size + 4:=by unfold zH4; rw [Heap.size_push,z3]
  have z5:(zH5 t1 t2 s.heap l1 l2).objs.size=s.heap.objs.size + 5:=by unfold zH5; rw [Heap.size_push,z4]
  have g5:(zH5 t1 t2 s.heap l1 l2).get? (zH4 t1 t2 s.heap l1 l2).objs.size=some { cls:=.type "zip",data:=.fields #[.none,.bool false,.bool false,.ref (zH2 t1 t2 s.heap l1 l2).objs.size,.ref (zH3 t1 t2 s.heap l1 l2).objs.size] }:=Heap.get?_push_size _ rfl
  have g4:(zH5 t1 t2 s.heap l1 l2).get? (zH3 t1 t2 s.heap l1 l2).objs.size=some { cls:=.type "tuple",data:=.seq #[.none,.none] }:=Heap.get?_push_of_some _ (Heap.get?_push_size _ rfl)
  have g3:(zH5 t1 t2 s.heap l1 l2).get? (zH2 t1 t2 s.heap l1 l2).objs.size=some { cls:=.type "tuple",data:=.seq #[.ref s.heap.objs.size,.ref (zH1 t1 s.heap l1).objs.size] }:=Heap.get?_push_of_some _ (Heap.get?_push_of_some _ (Heap.get?_push_size _ rfl))
  have g2:(zH5 t1 t2 s.heap l1 l2).get? (zH1 t1 s.heap l1).objs.size=some (iterObj t2 l2):=Heap.get?_push_of_some _ (Heap.get?_push_of_some _ (Heap.get?_push_of_some _ (Heap.get?_push_size _ (iterObj_free _ _))))
  have g1:(zH5 t1 t2 s.heap l1 l2).get? s.heap.objs.size=some (iterObj t1 l1):=Heap.get?_push_of_some _ (Heap.get?_push_of_some _ (Heap.get?_push_of_some _ (Heap.get?_push_of_some _ (Heap.get?_push_size _ (iterObj_free _ _)))))
  show _/\_
  rw [z2,z3,z4] at g5
  rw [z1,z2] at g3
  rw [z3] at g4
  rw [z1] at g2
  rw [z4]
  exact ⟨⟨_,g5,rfl⟩,h _ g5 g3 g4 (iterObj_at g1) (iterObj_at g2) z5 fun c o x=>
    Heap.get?_push_of_some _ (Heap.get?_push_of_some _ (Heap.get?_push_of_some _ (Heap.get?_push_of_some _ (Heap.get?_push_of_some _ x))))⟩
end
def SqK (K:PySem.W.Frag) (t:Bool) (H:Hp) (a:Addr) (xs:List V):Prop:=if t=true then SqT K H a xs else SqL K H a xs
section
variable {X:Cx} {pins:List (Addr × Obj)} {σ:St} {H:Hp} {s:Shared}
theorem Inv.seqK {t:Bool} {a:Addr} {xs:List V} (I:Inv X pins σ H s) (h:SqK X.K t H a xs):∃ its:List Value,Vals xs its/\HasItems t s.heap a its.toArray/\xs.length<=sizeLine:=by
  cases t
  · obtain ⟨its,r,p,z⟩:=I.list h
    exact ⟨its,r,p.isList,z⟩
  · obtain ⟨its,r,p,z⟩:=I.tuple h
    exact ⟨its,r,p,z⟩
theorem Inv.seqK_inj {t:Bool} {a:Addr} {xs ys:List V} (I:Inv X pins σ H s) (h:SqK X.K t H a xs) (h':SqK X.K t H a ys):xs=ys:=by
  cases t
  · exact I.list_inj h h'
  · exact I.tuple_inj h h'
theorem Inv.turnedL {t':Nat} {its:List Addr} {h':Heap} (I:Inv X pins σ H s) (k:∀ b o,b ∉ its->s.heap.get? b=some o->h'.get? b=some o) (hf:∀ b ∈ its,FpOk X pins H b):Inv X pins σ H { s with heap:=h',toks:=t' }:=by
  have nit:∀ b u,H b=some u->b ∉ its:=fun b u e z=>by rw [(hf b z).1] at e; cases e
  refine I.step (g':=s.gens) (d':=s.drawn) (ch:=its) (fun b hb=>?_) (fun b o _ _ hc e _=>k b o hc e) (fun b o _ _ hc e _=>⟨o.slots,k b o hc e⟩) (fun _ _ _ _ n=>n)
    (fun b o hc e=>⟨o,k b o hc e⟩) (fun _ _ e=>e) (fun _ _ _ e=>e) (fun b ps e=>⟨#[],by rw [e]; simp⟩) (fun m hm=>?_) (fun b u e=>?_) I.bare
  · obtain ⟨f0,f1,f2,f3,f4,f5⟩:=hf b hb
    exact ⟨f3,f1,f4,f5⟩
  · obtain ⟨o,es,ep,ho,r⟩:=hm
    exact ⟨o,es,ep,k _ o (fun z=>(hf _ z).2.1 rfl) ho,r⟩
  · refine (I.hok b u e).stay (fun c v hc q=>k c v ?_ q) (fun _ q=>q) fun _ _ q=>q
    rcases hc with z | z
    · rw [z]; exact nit b u e
    · exact nit c _ z
end
def Itz (K:PySem.W.Frag) (t1 t2:Bool) (a b:Addr):It:=
  ⟨fun i H=>∃ xs ys x y,SqK K t1 H a xs/\SqK K t2 H b ys/\xs[i]?=some x/\ys[i]?=some y,
   fun i H v H'=>∃ p x y,H p=none/\v=.ref p/\H'=upd H p (.tup [x,y])/\∀ xs ys,SqK K t1 H a xs->SqK K t2 H b ys->xs[i]?=some x/\ys[i]?=some y,
   fun i H=>∃ xs ys,SqK K t1 H a xs/\SqK K t2 H b ys/\(xs.length<=i\/ys.length<=i)⟩
def zipSt (t1 t2:Bool) (z TI TO i1 i2 a b:Addr) (i:Nat) (h:Heap):Prop:=
  IsZip h z TI TO .none/\IsPair h TI (.ref i1) (.ref i2)/\(∃ u v,IsPair h TO u v)/\IterAt t1 h i1 a i/\IterAt t2 h i2 b i
theorem pair_cell {a b:Value}:∀ v,({ cls:=.type "tuple",data:=.seq #[a,b] }:Obj).data ≠ .cell v:=fun v z=>by cases z
theorem turn_zip {P:Program} {w:World} {K:PySem.W.Frag} {elts:List Expr} {k:Nat} {pos:Pos} {t1 t2:Bool} {z TI TO i1 i2 a b:Addr} (D:ZipApart z TI TO i1 i2 a b) :
    Turn P w K (.Tuple elts k pos) (Itz K t1 t2 a b) [z,TI,TO,i1,i2] z (zipSt t1 t2 z TI TO i1 i2 a b) where
  mem:=by simp
  obj:=fun i h st c hc=>by
    obtain ⟨hz,hTI,⟨u,v,hTO⟩,h1,h2⟩:=st
    simp at hc
    rcases hc with rfl | rfl | rfl | rfl | rfl
    · exact ⟨_,hz,fun v q=>by cases q⟩
    · exact ⟨_,hTI,pair_cell⟩
    · exact ⟨_,hTO,pair_cell⟩
    · exact h1.there
    · exact h2.there
  keep:=fun i h h' st kk=>by
    obtain ⟨hz,hTI,⟨u,v,hTO⟩,h1,h2⟩:=st
    exact ⟨kk z (by simp) _ hz,kk TI (by simp) _ hTI,⟨u,v,kk TO (by simp) _ hTO⟩,h1.at fun o e=>kk i1 (by simp) o e,h2.at fun o e=>kk i2 (by simp) o e⟩
  item:=by
    intro X hP hw hK hc i pins s σ H E I hf st hg
    subst hP hw hK
    obtain ⟨xs,ys,x,y,hq1,hq2,hx,hy⟩:=hg
    obtain ⟨hz,hTI,⟨u,v,hTO⟩,h1,h2⟩:=st
    obtain ⟨its,rv,p,_⟩:=I.seqK hq1
    obtain ⟨its2,rv2,p2,_⟩:=I.seqK hq2
    obtain ⟨ux,hux,rux⟩:=rv.get hx
    obtain ⟨uy,huy,ruy⟩:=rv2.get hy
    refine next_zipG_item D hz hTI hTO h1 h2 p p2 (x:=ux) (y:=uy) (by simpa using hux) (by simpa using huy) fun h' a1 a2 a3 a4 a5 a6 a7=>⟨_,rfl,?_⟩
    refine wpAny_letOwnedTupleGo_zip (s:={ s with heap:=h' }) a1 fun h'' b1 b2=>?_
    have hfr:H s.heap.objs.size=none:=I.fresh
    have zlt:z < s.heap.objs.size:=Heap.lt_size hz
    have TIlt:TI < s.heap.objs.size:=Heap.lt_size hTI
    have TOlt:TO < s.heap.objs.size:=Heap.lt_size hTO
    have i1lt:i1 < s.heap.objs.size:=by obtain ⟨o,e,_⟩:=h1.there; exact Heap.lt_size e
    have i2lt:i2 < s.heap.objs.size:=by obtain ⟨o,e,_⟩:=h2.there; exact Heap.lt_size e
    have I1:Inv X pins σ H { s with heap:=h'' }:=I.turnedL (t':=s.toks) (its:=[z,TO,i1,i2]) (fun c o hc e=>(b2.2 c (fun q=>hc (by simp [q]))).trans (a7 c o (fun q=>hc (by simp [q])) (fun q=>hc (by simp [q])) (fun q=>hc (by simp [q])) (fun q=>hc (by simp [q])) e))
      fun c hc=>hf c (by simp at hc ⊢; rcases hc with rfl | rfl | rfl | rfl <;> simp)
    have tupAt:IsPair h'' s.heap.objs.size ux uy:=(b2.2 _ (Nat.ne_of_gt zlt)).trans a5
    have fsz:H s.heap.objs.size=none:=hfr
    have I2:Inv X pins σ (upd H s.heap.objs.size (.tup [x,y])) { s with heap:=h'' }:=by
      refine ⟨I1.ok,I1.os,I1.bare,?_,I1.loc,I1.cell,?_,?_,?_,?_,I1.len⟩
      · have u0:=I1.base
        have old:∀ c o,X.s₀.heap.get? c=some o->c ≠ s.heap.objs.size:=fun c o e=>Nat.ne_of_lt (Nat.lt_of_lt_of_le (Heap.lt_size e) I.sz)
        exact ⟨u0.keep,u0.slot,fun c o e n hx=>by rw [Qb (old c o e)]; exact u0.free c o e n hx,u0.there,
          fun c ts e=>by have:=u0.tups c ts e; rw [Qb (Qc this fsz)]; exact this,
          fun c o ts e=>by have:=u0.frzs c o ts e; rw [Qb (Qc this fsz)]; exact this,
          fun c ps e=>by obtain ⟨more,q⟩:=u0.tbls c ps e; exact ⟨more,by rw [Qb (Qc q fsz)]; exact q⟩⟩
      · rw [Qb (Nat.ne_of_lt I.lt)]; exact I.free
      · intro x' c e
        obtain ⟨v',q⟩:=I.cell x' c e
        rw [Qb (Nat.ne_of_lt q.lt)]; exact I.freeC x' c e
      · intro p' hp'
        obtain ⟨e,n,ne,nf,d⟩:=I1.pin p' hp'
        have e0:=(I.pin p' hp').1
        exact ⟨e,by rw [Qb (Nat.ne_of_lt (Heap.lt_size e0))]; exact n,ne,nf,d⟩
      · intro c o q
        by_cases hcs:c=s.heap.objs.size
        · subst hcs
          rw [upd_same] at q; cases q
          exact ⟨by simp only [List.length_cons,List.length_nil]; rw [sizeLine_eq]; decide,[ux,uy],.cons rux (.cons ruy .nil),⟨_,tupAt,rfl,0,rfl⟩⟩
        · rw [Qb hcs] at q
          exact (I1.hok c o q).stay (fun _ _ _ r=>r) (fun c' r=>by rw [Qb (Qc r fsz)]; exact r) fun c' ts r=>by rw [Qb (Qc r fsz)]; exact r
    refine ⟨.ref s.heap.objs.size,_,I2,rfl,⟨s.heap.objs.size,x,y,fsz,rfl,rfl,fun xs' ys' q1 q2=>?_⟩,?_,fun c hc=>?_⟩
    · rw [I.seqK_inj q1 hq1,I.seqK_inj q2 hq2]; exact ⟨hx,hy⟩
    · exact ⟨b1,b2.extBut _ _ D.TIz (a7 _ _ D.TIz D.TITO D.TIi1 D.TIi2 hTI),⟨_,_,b2.extBut _ _ D.TOz a2⟩,a3.at fun o e=>b2.extBut _ _ D.i1z e,a4.at fun o e=>b2.extBut _ _ D.i2z e⟩
    · have:=(hf c hc).1
      have clt:c < s.heap.objs.size:=by simp at hc; rcases hc with rfl | rfl | rfl | rfl | rfl <;> assumption
      rw [Qb (Nat.ne_of_lt clt)]; exact this
  done:=by
    intro X hP hw hK hc i pins s σ H E I hf st hg
    subst hP hw hK
    obtain ⟨xs,ys,hq1,hq2,hend⟩:=hg
    obtain ⟨hz,hTI,⟨u,v,hTO⟩,h1,h2⟩:=st
    obtain ⟨its,rv,p,_⟩:=I.seqK hq1
    obtain ⟨its2,rv2,p2,_⟩:=I.seqK hq2
    have l1:=rv.length
    have l2:=rv2.length
    refine next_zipG_end (I.ok.hd hc) D hz hTI hTO h1 h2 p p2 (hend.elim (fun h=>.inl (by simp; omega)) fun h=>.inr (by simp; omega)) fun h' kk=>⟨rfl,?_⟩
    exact I.turnedL (t':=s.toks) (its:=[z,TO,i1,i2]) (fun c o hc e=>kk c o (fun q=>hc (by simp [q])) (fun q=>hc (by simp [q])) (fun q=>hc (by simp [q])) (fun q=>hc (by simp [q])) e)
      fun c hc=>hf c (by simp at hc ⊢; rcases hc with rfl | rfl | rfl | rfl <;> simp)
  self:=fun _ _ _ _ _ st h=>wpAny_pyIter_zip st.1 h
section
variable {X:Cx}
def iZip (K:PySem.W.Frag) (t1 t2:Bool) (ta:TA):TI:=fun σ H R=>ta σ H fun vs H1=>∃ a b xs ys,vs=[.ref a,.ref b]/\SqK K t1 H1 a xs/\SqK K t2 H1 b ys/\R (Itz K t1 t2 a b) H1
theorem boot_zip:bootBuiltins "zip" = some (.type "zip"):=by decide +kernel
theorem pi_zip (t1 t2:Bool) {a b:Expr} {ta:TA} {p pos:Pos} {elts:List Expr} {k:Nat} {tp:Pos} (hg:Gl X "zip") (hm:X.mg "zip" = none) (ha:PA X [a,b] ta) (hs:starEach [a,b] X.env=[(false,eval a X.env),(false,eval b X.env)]:=by rfl) (hs2:starEach [b] X.env=[(false,eval b X.env)]:=by rfl) :
    PI X (.Tuple elts k tp) (.Call (.Name "zip" p) [a,b] [] pos) (iZip X.K t1 t2 ta):=by
  intro pins s σ H R I h
  refine Call_ (ld_blt I hg hm boot_zip (PyProof.Rows.callWith_type1 (thn (ha pos pins s σ H _ I h) fun us s1 ⟨vs,H1,I1,r1,q1⟩=>?_) (by rw [hs,hs2]) (by rw [hs2]; rfl)))
  obtain ⟨a',b',xs,ys,e,q1,q2,q⟩:=q1
  subst e
  cases r1 with
  | cons r rr=>
    cases rr with
    | cons r' rr=>
      cases rr
      cases r
      cases r'
      obtain ⟨its,rv,p1,_⟩:=I1.seqK q1
      obtain ⟨its2,rv2,p2,_⟩:=I1.seqK q2
      refine call_zipG p1 p2 fun h' z1 z2 z3 z4 z5 z6 z7=>?_
      refine wpAny_pyIter_zip (s:={ s1 with heap:=h' }) z1 ?_
      have lta:a' < s1.heap.objs.size:=by obtain ⟨o,e⟩:=p1.there; exact Heap.lt_size e
      have ltb:b' < s1.heap.objs.size:=by obtain ⟨o,e⟩:=p2.there; exact Heap.lt_size e
      have D:ZipApart (s1.heap.objs.size + 4) (s1.heap.objs.size + 2) (s1.heap.objs.size + 3) s1.heap.objs.size (s1.heap.objs.size + 1) a' b':=by
        constructor <;> (intro z; unfold Addr at *; omega)
      refine ⟨_,[s1.heap.objs.size + 4,s1.heap.objs.size + 2,s1.heap.objs.size + 3,s1.heap.objs.size,s1.heap.objs.size + 1],_,_,H1,rfl,I1.kept (t':=s1.toks) z7,turn_zip (t1:=t1) (t2:=t2) D,⟨z1,z2,⟨_,_,z3⟩,z4,z5⟩,fun c hc=>?_,q⟩
      have hc':s1.heap.objs.size<=c:=by simp at hc; unfold Addr at *; omega
      exact I1.fpOk hc' (I1.hok.fresh hc')
end
end L2
namespace L2
open PySem PySem.Spec PyProof.Rows
theorem walksK {prog:Program} {w:World} {A:Around} (hh:A.handled=none) (t:Bool) (I ax:Addr) (hne:ax ≠ I) (items:Array Value) :
    Walks prog w A I [I,ax] [I] items.size (fun i v=>items[i]?=some v) (fun i h=>IterAt t h I ax i/\HasItems t h ax items):=by
  cases t
  · exact Walks.list hh I ax hne items
  · exact Walks.tuple hh I ax hne items
section
variable {X:Cx} {pins:List (Addr × Obj)} {σ:St} {H:Hp} {s:Shared}
theorem Inv.movedNew {s':Shared} (I:Inv X pins σ H s) {o:Obj} (m:Moved [s.heap.objs.size] (fun a b=>b=a) { s with heap:=s.heap.push o } s'):Inv X pins σ H s':=by
  obtain ⟨m1,m2,m3,m4,m5⟩:=m
  obtain ⟨h',g',d',t',o'⟩:=s'
  have e1:g'=s.gens:=m2
  have e2:d'=s.drawn:=m3
  have e3:o'=s.os:=m4
  subst e1 e2 e3
  refine I.kept (t':=t') fun b u e=>m1 b u (fun z=>?_) (Heap.get?_push_of_some _ e)
  have:b=s.heap.objs.size:=by simpa using z
  exact absurd (Heap.lt_size e) (by rw [this]; exact Nat.lt_irrefl _)
theorem bools_get {bs:List Bool} {its:List Value} (r:Vals (bs.map V.bl) its):∀ (i:Nat) (v:Value),its.toArray[i]?=some v->v=Value.bool (bs.getD i false):=fun i v e=>by
  have e':its[i]?=some v:=by simpa using e
  have hi:i < its.length:=(List.getElem?_eq_some_iff.mp e').1
  have hl:=r.length
  rw [List.length_map] at hl
  have hn:(bs.map V.bl)[i]?=some (V.bl (bs.getD i false)):=by
    have:i < bs.length:=by omega
    simp [List.getD,this]
  obtain ⟨u,hu,ru⟩:=r.get hn
  rw [e'] at hu
  cases hu
  exact ru
theorem iterObj_walk {t:Bool} {l:Addr} {items:Array Value} (hl:HasItems t s.heap l items):l ≠ s.heap.objs.size /\
    (IterAt t (s.heap.push (iterObj t l)) s.heap.objs.size l 0/\HasItems t (s.heap.push (iterObj t l)) l items)/\∀ b ∈ [s.heap.objs.size,l],b < (s.heap.push (iterObj t l)).objs.size:=by
  obtain ⟨o,e⟩:=hl.there
  have hlt:=Heap.lt_size e
  refine ⟨Nat.ne_of_lt hlt,⟨iterObj_at (Heap.get?_push_size _ (iterObj_free _ _)),hl.at fun o e=>Heap.get?_push_of_some _ e⟩,fun b hb=>?_⟩
  rw [Heap.size_push]
  simp at hb
  rcases hb with rfl | rfl
  · exact Nat.lt_succ_self _
  · exact Nat.lt_succ_of_lt hlt
end
section
variable {X:Cx}
theorem range_all (bs:List Bool):(List.range bs.length).all (fun i=>bs.getD i false)=bs.all id:=by
  induction bs with
  | nil=>rfl
  | cons b r ih=>
    rw [List.length_cons,List.range_succ_eq_map,List.all_cons,List.all_map,List.all_cons,<- ih]
    rfl
theorem range_any (bs:List Bool):(List.range bs.length).any (fun i=>bs.getD i false)=bs.any id:=by
  induction bs with
  | nil=>rfl
  | cons b r ih=>
    rw [List.length_cons,List.range_succ_eq_map,List.any_cons,List.any_map,List.any_cons,<- ih]
    rfl
theorem call_all (t:Bool) (hc:X.calm=true):CallR X (.builtin "all") (fun xs H Q=>∃ (a:Addr) (bs:List Bool),xs=[.ref a]/\SqK X.K t H a (bs.map V.bl)/\Q (.bl (bs.all id)) H):=by
  intro pins s σ H xs us Q I r h
  obtain ⟨a,bs,rfl,hq,q⟩:=h
  obtain ⟨u,rfl,r1⟩:=vals1 r
  cases r1
  obtain ⟨its,rv,p,_⟩:=I.seqK hq
  obtain ⟨w1,w2,w3⟩:=iterObj_walk p
  have hl:=rv.length
  rw [List.length_map] at hl
  refine call_all_walkS (pyIter_seq p ⟨_,_,_,_,_,_,_,fun j=>bs.getD j false,rfl,(walksK (A:=X.A.in1) (I.ok.hd hc) t _ a w1 its.toArray).toS,w2,fun i v s' Q' E' hv hQ=>?_,fun s' m=>?_⟩)
  · rw [bools_get rv i v hv]
    exact wpAny_truthy_bool hQ
  · refine ⟨.bl (bs.all id),H,I.movedNew m,?_,q⟩
    show Value.bool _=_
    rw [List.size_toArray,<- hl,range_all]
theorem call_any (t:Bool) (hc:X.calm=true):CallR X (.builtin "any") (fun xs H Q=>∃ (a:Addr) (bs:List Bool),xs=[.ref a]/\SqK X.K t H a (bs.map V.bl)/\Q (.bl (bs.any id)) H):=by
  intro pins s σ H xs us Q I r h
  obtain ⟨a,bs,rfl,hq,q⟩:=h
  obtain ⟨u,rfl,r1⟩:=vals1 r
  cases r1
  obtain ⟨its,rv,p,_⟩:=I.seqK hq
  obtain ⟨w1,w2,w3⟩:=iterObj_walk p
  have hl:=rv.length
  rw [List.length_map] at hl
  refine call_any_walkS (pyIter_seq p ⟨_,_,_,_,_,_,_,fun j=>bs.getD j false,rfl,(walksK (A:=X.A.in1) (I.ok.hd hc) t _ a w1 its.toArray).toS,w2,fun i v s' Q' E' hv hQ=>?_,fun s' m=>?_⟩)
  · rw [bools_get rv i v hv]
    exact wpAny_truthy_bool hQ
  · refine ⟨.bl (bs.any id),H,I.movedNew m,?_,q⟩
    show Value.bool _=_
    rw [List.size_toArray,<- hl,range_any]
end
section
variable {prog:Program} {w:World} {A:Around} {E:Value->Shared->Prop} {s:Shared}
end
section
variable {X:Cx}
end
end L2
namespace L2
open PySem PySem.Spec PyProof.Rows
theorem same_new {H:Hp} {a:Addr} {o:HO} (h:H a=none):Same H (upd H a o):=fun b u e=>by rw [Qb (Qc e h)]; exact e
section
variable {K:PySem.W.Frag} {cap:List (Option Nat)} {te:TE} {σ:St} {H1:Hp} {Q:VK}
abbrev g2 (K:PySem.W.Frag):TG:=gTup K 2 (gCons (gName 0) (gCons (gName 1) gNil))
end
def clsV:V->Option Value
  | .ty n=>some (.type n)
  | .ref a=>some (.ref a)
  | _=>none
theorem clsV_rel {c:V} {cv u:Value} (e:clsV c=some cv) (r:RelV c u):u=cv:=by
  cases c with
  | ty n=>cases e; exact r
  | ref a=>cases e; exact r
  | _=>cases e
section
variable {X:Cx}
theorem call_isinst:CallR X (.builtin "isinstance") (fun xs H Q=>∃ x c cv t b,xs=[x,c]/\clsV c=some cv/\TyOf X.K H x t/\PySem.W.kitOne X.K t cv=some b/\Q (.bl b) H):=by
  intro pins s σ H xs us Q I r h
  obtain ⟨x,c,cv,t,b,rfl,hc,ty,e,q⟩:=h
  obtain ⟨u,w',rfl,r1,r2⟩:=vals2 r
  rw [clsV_rel hc r2]
  exact isinst_ok I r1 ty e fun tk=>⟨.bl b,H,I.tok tk,rfl,q⟩
theorem boot_isinstance:bootBuiltins "isinstance" = some (.builtin "isinstance"):=by decide +kernel
theorem boot_all:bootBuiltins "all" = some (.builtin "all"):=by decide +kernel
theorem boot_any:bootBuiltins "any" = some (.builtin "any"):=by decide +kernel
theorem boot_tuple:bootBuiltins "tuple" = some (.type "tuple"):=by decide +kernel
theorem boot_int:bootBuiltins "int" = some (.type "int"):=by decide +kernel
theorem boot_bool:bootBuiltins "bool" = some (.type "bool"):=by decide +kernel
end
section
variable {X:Cx} (K:PySem.W.Frag)
end
end L2
namespace L2
open PySem PySem.Spec PyProof.Rows PySem.W PySem.Builtin.Getset_descriptor
structure XCls (K:Frag) (C:Addr):Prop where
  cls:(clsIn K C).isSome=true
  ga:findIn K (.ref C) "__getattribute__" = some (some (.builtin "BaseException.__getattribute__"))
  gt:findIn K (.ref C) "__getattr__" = some none
  cl:findIn K (.ref C) "__class__" = some (some (.builtin "object.__class__"))
  gs:specialIn K (.builtin "object.__class__") "__get__" = some (some (.builtin "getset_descriptor.__get__"))
  tk:takesIn K (.builtin "object.__class__")=some true
  ob:mroIn K C (.type "object")=some true
  be:mroIn K C (.type "BaseException")=some true
def IsX (x C:Addr) (h:Heap):Prop:=∃ ox,h.get? x=some ox/\ox.cls=.ref C
theorem IsX.type {M:Model} {h:Heap} {x C:Addr} (I:IsX x C h):Looks M h (typeOf (.ref x)) (.ref C):=by
  obtain ⟨ox,h1,h2⟩:=I
  exact h2 ▸ (Looks.ld h1).andThen .now
theorem xc_find {K:Frag} {M:Model} {h:Heap} {x C:Addr} (X:K.In h) (F:XCls K C):Looks M h (Builtin.ObjectAttr.find (.ref x) (.ref C) "__class__") (.bind (.builtin "getset_descriptor.__get__") (.builtin "object.__class__")):=by
  have L1:=looks_findIn (M:=M) X F.cl
  have L2:Looks M h (Builtin.ObjectAttr.getOf (some (.builtin "object.__class__"))) (some (.builtin "getset_descriptor.__get__")):=looks_specialIn X F.gs
  have L3:Looks M h (Builtin.ObjectAttr.dataDescriptor? (some (.builtin "object.__class__")) (some (.builtin "getset_descriptor.__get__"))) (some (.builtin "getset_descriptor.__get__",.builtin "object.__class__")):=(looks_takesIn X F.tk).andThen .now
  exact L1.andThen (L2.andThen (L3.andThen (Looks.tag .now)))
section
variable {prog:Program} {w:World} {A:Around} {E:Value->Shared->Prop} {h:Heap} {g:Array GenState} {d:Drawn} {t:Nat} {os:OsState} {K:Frag} {x C:Addr}
theorem xc_get {tp:Value} {R:Result->Shared->Prop} (X:K.In h) (F:XCls K C) (I:IsX x C h) (hq:R (.ok (.ret (.ref C))) ⟨h,g,d,t,os⟩):codeAny (model prog w) A (.call (.builtin "getset_descriptor.__get__") ⟨[.builtin "object.__class__",.ref x,tp],[]⟩) R ⟨h,g,d,t,os⟩:=by
  have L0:=I.type (M:=model prog w)
  have L1:=looks_mroIn (M:=model prog w) X F.ob
  refine codeAny_call_builtin KF.slot_gs.plain KF.entry_gs (KF.slot_gs.check _ _ _ _ _ _ _ _ KF.type_class (KF.args_gs _ _ _) ?_)
  unfold Builtin.«getset_descriptor.__get__» descrGet
  rw [dga_obj]
  refine wpAny_bind (wpAny_pure ?_)
  unfold descrGetter descrCheckInstance descrNameAndClass isInstance
  simp only [KF.owner_class]
  repeat lk
  refine ⟨Code.quiet_builtin _ (by decide +kernel),codeAny_builtin KF.entry_class ?_⟩
  unfold Builtin.«object.__class__» shownTypeOf
  repeat lk
  exact hq
theorem xc_entry {tk:Tok} {Q:Fin->Shared->Prop} (X:K.In h) (F:XCls K C) (I:IsX x C h) (hq:Q (.done (.ret (.ref C))) ⟨h,g,d,t,os⟩) :
    wpAny (model prog w) A (Builtin.«object.__getattribute__» ⟨[.ref x,.str "__class__" tk],[]⟩) Q E ⟨h,g,d,t,os⟩:=by
  have L0:=I.type (M:=model prog w)
  have L1:=xc_find (M:=model prog w) (x:=x) X F
  unfold Builtin.«object.__getattribute__»
  refine wpAny_bind (wpAny_pure ?_)
  refine wpAny_bind (wpAny_pure ?_)
  refine wpAny_bind (L0.at (wpAny_bind (L1.at ?_)))
  show wpAny _ _ (Builtin.ObjectAttr.bindTo (.builtin "getset_descriptor.__get__") (.builtin "object.__class__") (.ref x) (.ref C)) _ _ _
  unfold Builtin.ObjectAttr.bindTo
  refine wpAny_bind (wpAny_holding (wpAny_call (xc_get X F I ?_)))
  exact wpAny_pure hq
theorem xc_check {M:Model} {nameV:Value} {Q:Unit->Shared->Prop} (X:K.In h) (F:XCls K C) (I:IsX x C h) (hq:Q () ⟨h,g,d,t,os⟩):wpAny M A (checkBuiltinCall "BaseException.__getattribute__" ⟨[.ref x,nameV],[]⟩) Q E ⟨h,g,d,t,os⟩:=by
  have hk:builtinKind "BaseException.__getattribute__" = some .slot:=by decide +kernel
  have hsplit:splitId "BaseException.__getattribute__" = some ("BaseException", "__getattribute__"):=by decide +kernel
  have LI:Looks M h (isInstance (.ref x) (.type "BaseException")) true:=(I.type).andThen (looks_mroIn X F.be)
  have ha:=PySem.F.args_bexc_ga (.ref x) nameV
  simp only [checkBuiltinCall,hk,hsplit]
  refine wpAny_bind (LI.at ?_)
  simp only [Bool.not_true,Bool.false_eq_true,if_false]
  exact wpAny_of_eq ha hq
theorem xc_call {tk:Tok} {R:Result->Shared->Prop} (X:K.In h) (F:XCls K C) (I:IsX x C h) (hq:R (.ok (.ret (.ref C))) ⟨h,g,d,t,os⟩) :
    codeAny (model prog w) A (.call (.builtin "BaseException.__getattribute__") ⟨[.ref x,.str "__class__" tk],[]⟩) R ⟨h,g,d,t,os⟩:=
  codeAny_call_builtin PySem.F.attr_ValueError.ga.plain PySem.F.entry_bexc_ga (xc_check X F I (xc_entry X F I hq))
theorem xc_by {tk:Tok} {Q:Value->Shared->Prop} (X:K.In h) (F:XCls K C) (I:IsX x C h) (hq:Q (.ref C) ⟨h,g,d,t,os⟩):wpAny (model prog w) A (getAttrBy (.ref x) (.str "__class__" tk) false) Q E ⟨h,g,d,t,os⟩:=by
  have L0:=I.type (M:=model prog w)
  have L1:=looks_findIn (M:=model prog w) X F.ga
  have L2:=looks_findIn (M:=model prog w) X F.gt
  have hx2:(Value.builtin "BaseException.__getattribute__" == Value.builtin "object.__getattribute__")=false:=by decide +kernel
  have hx1:(onTheHeap (Value.ref C) && Value.builtin "BaseException.__getattribute__" == Value.builtin "object.__getattribute__")=false:=by rw [hx2]; rfl
  have f3:=PySem.F.attr_ValueError.ga.bind (.ref x)
  unfold getAttrBy
  refine wpAny_holding (wpAny_bind (L0.at (wpAny_bind (L1.at ?_))))
  repeat (any_goals (first | assumption | with_reducible refine L2.at ?_ | wp_step))
  refine xc_call X F I ?_
  repeat (any_goals (first | assumption | wp_step))
theorem xc_attr {Q:Option Value->Shared->Prop} (X:K.In h) (F:XCls K C) (I:IsX x C h) (hq:Q (some (.ref C)) ⟨h,g,d,t + 1,os⟩):wpAny (model prog w) A (getAttr? (.ref x) "__class__") Q E ⟨h,g,d,t,os⟩:=by
  unfold getAttr? getAttrBy?
  repeat (any_goals (first | assumption | with_reducible apply xc_by X F I | wp_step))
end
theorem kitx_exc {K:Frag} {x C:Addr} (F:XCls K C):KitX K (.ref x) (.ref C) (IsX x C) where
  ty:=fun _ _ _ I=>I.type
  it:=fun _ _ X _=>by
    obtain ⟨cdD,hcD⟩:=Option.isSome_iff_exists.mp F.cls
    unfold clsIn at hcD
    split at hcD
    · rename_i c' d' cd' sl' ho
      intro A' Q' E' s' k q
      unfold isType loadHead
      exact wpAny_bind (wpAny_loadPart (k _ _ (X _ _ ho)) (wpAny_pure q))
    · cases hcD
  ne:=fun h tp dd its n sl X htp=>by
    obtain ⟨cdD,hcD⟩:=Option.isSome_iff_exists.mp F.cls
    refine Bool.eq_false_iff.mpr fun q=>?_
    have e:C=tp:=Value.ref.inj (beq_iff_eq.mp q)
    subst e
    unfold clsIn at hcD
    split at hcD
    · rename_i c' d' cd' sl' ho
      have z:=(X _ _ ho).symm.trans htp
      cases z
    · cases hcD
  ca:=fun {prog w A E Q s} X I k=>by
    obtain ⟨h,g,d,t,os⟩:=s
    exact xc_attr X F I k
end L2
namespace L2
open PySem PySem.Spec PyProof.Rows
theorem ObjOk.there {P:Program} {w:World} {H:Hp} {h:Heap} {a:Addr} {o:HO} (x:ObjOk P w H h a o):∃ u,h.get? a=some u:=by
  cases o with
  | lst xs=>obtain ⟨_,_,_,_,e⟩:=x; exact ⟨_,e⟩
  | tup xs=>obtain ⟨_,_,_,o,e,_⟩:=x; exact ⟨o,e⟩
  | dK kvs=>obtain ⟨_,_,_,_,o,_,_,e,_⟩:=x; exact ⟨o,e⟩
  | dT kvs=>obtain ⟨_,_,_,_,o,_,_,e,_⟩:=x; exact ⟨o,e⟩
  | set S n=>obtain ⟨o,_,_,_,e,_⟩:=x; exact ⟨o,e⟩
  | ins C dx fs=>obtain ⟨_,_,_,e,_⟩:=x; exact ⟨_,e⟩
  | own y=>exact x
  | xd fs=>obtain ⟨_,⟨o,_,_,e,_⟩,_⟩:=x; exact ⟨o,e⟩
  | rng lo hi=>obtain ⟨_,_,_,e⟩:=x; exact ⟨_,e⟩
  | frz ob u=>obtain ⟨e,_⟩:=x; exact ⟨_,e⟩
  | tbl ps=>exact ⟨_,x⟩
  | met f y=>exact ⟨_,x⟩
  | ext φ=>exact x.2.1
theorem HOk.none_of {P:Program} {w:World} {H:Hp} {h:Heap} {a:Addr} (x:HOk P w H h) (e:h.get? a=none):H a=none:=by
  cases q:H a with
  | none=>rfl
  | some o=>
    obtain ⟨u,z⟩:=(x a o q).there
    rw [e] at z
    cases z
structure Fly (P:Program) (w:World) (outer:List Env) (H H':Hp) (s s':Shared) (a:Addr) (cls a0:Value) (B:Heap):Prop where
  os:s'.os=s.os
  bare:AllBare s'.gens
  fl:Heap.FlyingW B outer a cls a0 s'.heap
  hokB:HOk P w H' B
  keep:∀ b o,s.heap.get? b=some o->H b=none->b ∉ frs outer->B.get? b=some o
  there:∀ b o,s.heap.get? b=some o->b ∉ frs outer->∃ o',B.get? b=some o'
  slot:∀ b o,s.heap.get? b=some o->b ∈ frs outer->∃ sl,s'.heap.get? b=some { o with slots:=sl }
  free:∀ b o,s.heap.get? b=some o->H b=none->H' b=none
  tups:∀ b xs,H b=some (.tup xs)->H' b=some (.tup xs)
  frzs:∀ b o u,H b=some (.frz o u)->H' b=some (.frz o u)
  tbls:∀ b ps,H b=some (.tbl ps)->∃ more,H' b=some (.tbl (ps ++ more))
section
variable {P:Program} {w:World} {K:PySem.W.Frag} {mg:Str->Option Value} {base:Heap} {N:List Str} {qual:Str} {scope:Scope} {f:Addr} {cd:Value} {A:Around} {outer:List Env} {s:Shared} {H:Hp} {E:XK}
end
abbrev bmVE:List Value:=[.type "ValueError",.type "Exception",.type "BaseException",.type "object"]
theorem own_obj {K:PySem.W.Frag} {h:Heap} {C:Addr} {bmB:List Value} {newId:String} {x:Str} {mg:Str->Option Value} (X:K.In h) (m:mg x=some (.ref C)) (q:PySem.W.excIn K C bmB newId=true):OwnCls x C bmB newId mg h:=by
  refine ⟨m,?_⟩
  unfold PySem.W.excIn at q
  split at q
  · rename_i dd cd sl ho
    split at q
    · rename_i C' bm k0 k1 k2 k3 n k5 hm hs
      simp only [Bool.and_eq_true,beq_iff_eq,Bool.not_eq_true'] at q
      obtain ⟨⟨⟨⟨⟨rfl,rfl⟩,hdel⟩,ht⟩,hok⟩,hni⟩:=q
      obtain ⟨nm,bs,mro,ns,qn,hd,sn,sub,ab,col,del⟩:=cd
      dsimp only at hm hdel hok hni
      subst hm hdel
      have hsl:sl=#[k0,k1,k2,k3,some (.builtin n),k5]:=by
        obtain ⟨l⟩:=sl
        simp only at hs
        rw [hs]
      subst hsl
      exact ⟨bm,ns,nm,qn,bs,hd,sn,sub,ab,col,dd,k0,k1,k2,k3,k5,_,X _ _ ho,.of_isNs (PySem.W.isNs_of_in X hok),PySem.W.nsMap_none_of_in X hok hni,PySem.W.tail_of_in X ht⟩
    · cases q
  · cases q
section
variable {X:Cx}
def tRaise (C:Addr) (E:XK) (t:TA):TS:=fun _ σ H=>t σ H fun vs H1=>vs.length<=sizeLine/\E (.ref C) none H1
end
end L2
namespace L2
open PySem PySem.Spec PyProof.Rows
def suiteCx (X:Cx) (a:Addr):Cx:={ X with A:=X.A.mark (some (.ref a)),calm:=false,xe:=fun _ _=>False }
section
variable {X:Cx} {pins:List (Addr × Obj)} {σ:St} {H H':Hp} {s s':Shared} {a C:Addr}
theorem Inv.suite (I:Inv X pins σ H s) (a:Addr):Inv (suiteCx X a) pins σ H s:=
  ⟨⟨I.ok.mod,I.ok.kind,I.ok.glob,I.ok.blt,I.ok.above,I.ok.inj,I.ok.has,I.ok.cab,fun h=>(by cases h),I.ok.frames,I.ok.stk,I.ok.exf,I.ok.bs,I.ok.bsz,I.ok.noex,I.ok.exfs,I.ok.funs,I.ok.frf⟩,I.os,I.bare,I.base,I.loc,I.cell,I.free,I.freeC,I.pin,I.hok,I.len⟩
theorem Inv.unsuite (ok:X.Ok) (I:Inv (suiteCx X a) pins σ H s):Inv X pins σ H s:=⟨ok,I.os,I.bare,I.base,I.loc,I.cell,I.free,I.freeC,I.pin,I.hok,I.len⟩
theorem Fly.inv {cls a0:Value} {B h5:Heap} (I:Inv X pins σ H s) (F:Fly X.prog X.w X.stack H H' s s' a cls a0 B) (kB:B.StaysIn h5) (sm:s'.heap.UpToSlots h5):Inv X pins σ H' { s' with heap:=h5 }:=by
  have sl:∀ b o,s.heap.get? b=some o->b ∈ frs X.stack->∃ sl,h5.get? b=some { o with slots:=sl }:=fun b o q hb=>by
    obtain ⟨sl,z⟩:=F.slot b o q hb
    obtain ⟨_,o',ho',hnf⟩:=I.stack.mem hb
    rw [q] at ho'
    cases ho'
    obtain ⟨sl',z'⟩:=sm b _ z hnf
    exact ⟨sl',z'⟩
  refine I.call' (s':={ s' with heap:=h5 }) (ch:=[]) F.os ⟨fun b o q n hb _=>kB _ _ (F.keep b o q n hb),fun b o q n hb _=>sl b o q hb,fun b o q n _=>F.free b o q n,fun b o q _=>?_,F.tups,F.frzs,F.tbls⟩ (F.hokB.kept kB) F.bare fun b z=>absurd z (by simp)
  by_cases hb:b ∈ frs X.stack
  · obtain ⟨sl,z⟩:=sl b o q hb
    exact ⟨_,z⟩
  · obtain ⟨o',z⟩:=F.there b o q hb
    exact ⟨o',kB _ _ z⟩
theorem Fly.new {cls a0:Value} {B:Heap} (F:Fly X.prog X.w X.stack H H' s s' a cls a0 B):s.heap.get? a=none/\H' a=none:=by
  have hB:B.get? a=none:=F.fl.2.1
  refine ⟨?_,F.hokB.none_of hB⟩
  cases q:s.heap.get? a with
  | none=>rfl
  | some o=>
    by_cases hb:a ∈ frs X.stack
    · obtain ⟨_,o',ho',hnf⟩:=F.fl.2.2.1.mem hb
      obtain ⟨oe,vs,he,_,hd,_⟩:=F.fl.first
      rw [ho'] at he
      cases he
      exact absurd hd (hnf vs)
    · obtain ⟨o',z⟩:=F.there a o q hb
      rw [hB] at z
      cases z
theorem Inv.track {s1:Shared} {φ:Heap->Prop} (I0:Inv X pins σ H s) (hex:∀ b,b ∉ X.ex) (h0:s.heap.get? a=none) (I:Inv X pins σ H' s1) (hn:H' a=none) (o:ObjOk X.prog X.w (upd H' a (.ext φ)) s1.heap a (.ext φ)):Inv X pins σ (upd H' a (.ext φ)) s1:=by
  have ne0:∀ b u,s.heap.get? b=some u->b ≠ a:=fun b u e z=>by rw [z,h0] at e; cases e
  have nes:∀ b u,X.s₀.heap.get? b=some u->b ≠ a:=fun b u e=>by
    obtain ⟨u',e'⟩:=I0.base.there b u e (hex b)
    exact ne0 b u' e'
  refine ⟨I.ok,I.os,I.bare,?_,I.loc,I.cell,?_,?_,?_,?_,I.len⟩
  · have u0:=I.base
    exact ⟨u0.keep,u0.slot,fun c o e n hx=>by rw [Qb (nes c o e)]; exact u0.free c o e n hx,u0.there,
      fun c ts e=>by have:=u0.tups c ts e; rw [Qb (Qc this hn)]; exact this,
      fun c o ts e=>by have:=u0.frzs c o ts e; rw [Qb (Qc this hn)]; exact this,
      fun c ps e=>by obtain ⟨more,q⟩:=u0.tbls c ps e; exact ⟨more,by rw [Qb (Qc q hn)]; exact q⟩⟩
  · obtain ⟨m,⟨o,_,_,e,_⟩,_⟩:=I0.loc
    rw [Qb (ne0 _ _ e)]; exact I.free
  · intro x c e
    obtain ⟨v,o,z,_⟩:=I0.cell x c e
    rw [Qb (ne0 _ _ z)]; exact I.freeC x c e
  · intro p hp
    obtain ⟨e,n,ne,nf,d⟩:=I.pin p hp
    exact ⟨e,by rw [Qb (ne0 _ _ (I0.pin p hp).1)]; exact n,ne,nf,d⟩
  · intro c u q
    by_cases hc:c=a
    · subst hc
      rw [upd_same] at q; cases q
      exact o
    · rw [Qb hc] at q
      exact (I.hok c u q).stay (fun _ _ _ r=>r) (fun c' r=>by rw [Qb (Qc r hn)]; exact r) fun c' ts r=>by rw [Qb (Qc r hn)]; exact r
theorem Inv.forget {i:Nat} {n:Str} {m:Str->Option Value} {h':Heap} {v:Option Value} {tk:Nat} (I:Inv X pins σ H s) (hN:X.N.Nodup) (hi:X.N[i]?=some n) (hl:∀ (i:Nat) (x:Str) (v:V),X.N[i]?=some x->σ[i]?=some (some v)->Vis X.env.scope x->∃ u,RelV v u/\Look X.env s.heap m x u)
    (hn':h'.Ns X.env.locals (fun x=>if x=n then v else m x)) (hs:Heap.SameBut X.env.locals s.heap h'):Inv X pins (σ.set i none) H { s with heap:=h',toks:=tk }:=by
  have cne:=I.cne
  have tracked:HOk X.prog X.w H h':=I.hok.same I.free hs
  have neL:∀ b o,X.s₀.heap.get? b=some o->b ≠ X.env.locals:=fun b o e=>Nat.ne_of_lt (Nat.lt_of_lt_of_le (Heap.lt_size e) I.ok.above)
  refine ⟨I.ok,I.os,I.bare,⟨fun b o e n hb hx=>(hs.2 b (neL b o e)).trans (I.base.keep b o e n hb hx),fun b o e n hb hx=>?_,I.base.free,fun b o e hx=>?_,I.base.tups,I.base.frzs,I.base.tbls⟩,⟨_,hn',fun j y v' e1 e2 e3=>?_⟩,fun y c e=>?_,I.free,I.freeC,fun p hp=>?_,tracked,by simpa using I.len⟩
  · obtain ⟨sl,z⟩:=I.base.slot b o e n hb hx
    exact ⟨sl,(hs.2 b (neL b o e)).trans z⟩
  · obtain ⟨o',z⟩:=I.base.there b o e hx
    exact ⟨o',(hs.2 b (neL b o e)).trans z⟩
  · by_cases hj:j=i
    · subst hj
      rw [hi] at e1; cases e1
      have:j < σ.length:=by have:=(List.getElem?_eq_some_iff.mp e2).1; simpa using this
      rw [List.getElem?_set_self this] at e2
      cases e2
    · rw [List.getElem?_set_ne (Ne.symm hj)] at e2
      obtain ⟨u,r,q⟩:=hl j y v' e1 e2 e3
      refine ⟨u,r,?_⟩
      rcases q with ⟨k,e⟩ | ⟨k,c,e,z⟩
      · refine .inl ⟨k,?_⟩
        have:y ≠ n:=fun e=>hj (nodup_ix hN e1 (e ▸ hi))
        simp [this,e]
      · exact .inr ⟨k,c,e,z.sameBut hs (cne y c e)⟩
  · obtain ⟨w',z⟩:=I.cell y c e
    exact ⟨w',z.sameBut hs (cne y c e)⟩
  · obtain ⟨e,n,ne,nf,d⟩:=I.pin p hp
    exact ⟨(hs.2 p.1 ne).trans e,n,ne,nf,d⟩
end
section
variable {X:Cx}
end
section
variable {X:Cx}
end
end L2
namespace L2
open PySem PySem.Spec PyProof.Rows
theorem tuple_mul_same (l:Addr) (items:Array Value) (n:Nat) (dd:Option Addr) (sl:Array (Option Value)) (t:Tok) :
    Meets (Builtin.«tuple.__mul__» ⟨[.ref l,.int 1 t],[]⟩) (fun _ R s=>s.heap.get? l=some { cls:=.type "tuple",dict:=dd,data:=.seq items n,slots:=sl }/\R (.ok (.ret (.ref l))) s):=
  .of_wp fun prog w A R s h=>by
    obtain ⟨hp,g,d,tk,os⟩:=s; obtain ⟨hl,h⟩:=h
    wp_walk using wpAny_loadPart' hl
    exact ⟨_,rfl,h⟩
theorem tuple_mul_many (l:Addr) (items:Array Value) (n:Nat) (dd:Option Addr) (sl:Array (Option Value)) (x:Int) (t:Tok) (h1:¬ (decide (x < -(2 ^ 63)) || decide (x>=2 ^ 63))=true) (h2:¬ (items.isEmpty || x == 1)=true) (h3:¬ (decide (x<=0) || items.isEmpty)=true) (h4:¬ (items.size:Int) * x > (2 ^ 63 - 1) / 8) (h5:¬ Builtin.Tuple.tupleTooMany ((items.size:Int) * x)=true)
    (h6:((List.replicate x.toNat items).foldl (fun x1 x2=>x1 ++ x2) #[]).size<=sizeLine) :
    Meets (Builtin.«tuple.__mul__» ⟨[.ref l,.int x t],[]⟩) (fun _ R s=>s.heap.get? l=some { cls:=.type "tuple",dict:=dd,data:=.seq items n,slots:=sl } /\
      R (.ok (.ret (Value.ref s.heap.objs.size))) { s with heap:=s.heap.push { cls:=Value.type "tuple",data:=Data.seq ((List.replicate x.toNat items).foldl (fun x1 x2=>x1 ++ x2) #[]) } }):=
  .of_wp fun prog w A R s h=>by
    obtain ⟨hp,g,d,tk,os⟩:=s; obtain ⟨hl,h⟩:=h
    wp_walk using wpAny_loadPart' hl
    refine wpAny_ite_false (decide_eq_false h1) ?_
    wp_walk using wpAny_loadPart' hl
    refine wpAny_ite_false (decide_eq_false h4) ?_
    wp_walk using wpAny_loadPart' hl
    all_goals first | exact ⟨_,rfl,h⟩ | (refine wpAny_ite_false (decide_eq_false h5) ?_; wp_walk) | skip
    all_goals first | exact ⟨_,rfl,h⟩ | (refine wpAny_ite_false (decide_eq_false (Nat.not_lt.mpr h6)) ?_; wp_walk; exact ⟨_,rfl,h⟩)
theorem int_rmul_tuple (a:Int) (t:Tok) (l:Addr) (items:Array Value) (n:Nat) (dd:Option Addr) (sl:Array (Option Value)) :
    Meets (Builtin.«int.__rmul__» ⟨[.int a t,.ref l],[]⟩) (fun _ R s=>s.heap.get? l=some { cls:=.type "tuple",dict:=dd,data:=.seq items n,slots:=sl }/\R (.ok (.ret Value.notImplemented)) s):=
  .of_wp fun prog w A R s h=>by obtain ⟨hp,g,d,tk,os⟩:=s; obtain ⟨hl,h⟩:=h; wp_walk using wpAny_loadPart' hl; exact ⟨_,rfl,h⟩
theorem noFill_tuple_mul:fillsNumberSlot (.type "tuple") "mul" = pure false:=
  PySem.fillsNumberSlot_seq (id := "tuple.__mul__") (r:=some (.builtin "tuple.__rmul__")) F.slot_tuple_mul.lookup (by decide +kernel) F.slot_tuple_rmul.lookup (by decide +kernel)
theorem repeat_tuple:seqRepeat? (.type "tuple")=pure (some (.builtin "tuple.__mul__")):=by
  unfold seqRepeat?
  rw [PySem.seqSlot_of (T := "tuple") (name := "__mul__") (id := "tuple.__mul__") F.slot_tuple_mul.lookup (by decide +kernel),PySem.seqSlot_of (T := "tuple") (name := "__rmul__") (id := "tuple.__rmul__") F.slot_tuple_rmul.lookup (by decide +kernel)]
  rfl
section
variable {X:Cx}
def rRepT (K:PySem.W.Frag):R2:=fun x y H Q=>∃ a k xs,x=.ref a/\y=.int k/\SqT K H a xs/\xs ≠ []/\1<=k/\xs.length * k.toNat<=4096 /\
  (k=1->Q (.ref a) H)/\(k ≠ 1->∀ p,H p=none->Q (.ref p) (upd H p (.tup (List.replicate k.toNat xs).flatten)))
theorem op_repT:OpR X (binaryOp .Mult) (rRepT X.K):=by
  intro pins s σ H x y v u Q I rx ry h
  obtain ⟨a,k,xs,rfl,rfl,ha,hne,hk,hz,q1,q2⟩:=h
  cases rx
  obtain ⟨t,rfl⟩:=ry
  obtain ⟨its,r,p1,hs⟩:=I.tuple ha
  obtain ⟨⟨cls,dd,data,sl⟩,ho,hc,n,hd⟩:=id p1
  simp only at hc hd
  subst hc hd
  have hl:its.length=xs.length:=r.length.symm
  have hpos:0 < its.length:=by rw [hl]; exact List.length_pos_iff.mpr hne
  have hkz:k.toNat<=4096:=by
    have:1 * k.toNat<=xs.length * k.toNat:=Nat.mul_le_mul_right _ (by omega)
    omega
  refine wpAny_binaryOp_repeat_ref (T := "tuple") (U := "int") (by decide) ⟨_,ho,rfl⟩ (fun s'=>typeIs_int s' k t) noFill_tuple_mul F.fills_int_mul F.slot_int_rmul repeat_tuple F.slot_int_index.lookup
    (call_meets F.slot_int_rmul (typeIs_int s k t) F.entry_int_rmul (F.args_int_rmul_2 _ _) (int_rmul_tuple k t a its.toArray n dd sl)
      ⟨ho,rfl,⟨_,ho,rfl⟩,?_⟩)
  by_cases h1:k=1
  · subst h1
    exact call_meets F.slot_tuple_mul ⟨_,ho,rfl⟩ F.entry_tuple_mul (F.args_tuple_mul_2 _ _) (tuple_mul_same a its.toArray n dd sl t) ⟨ho,⟨.ref a,H,I,rfl,q1 rfl⟩⟩
  · have f0:List.foldl (fun x1 x2=>x1 ++ x2) #[] (List.replicate k.toNat its.toArray)=(List.replicate k.toNat its).flatten.toArray:=by
      have:=foldl_rep its k.toNat []
      rw [List.nil_append] at this
      exact this
    have hlen:(its.toArray.size:Int) * k=((its.length * k.toNat:Nat):Int):=by
      rw [List.size_toArray,Int.natCast_mul,Int.toNat_of_nonneg (by omega)]
    have hfl:(List.replicate k.toNat its).flatten.length<=4096:=by rw [len_rep,hl,Nat.mul_comm]; exact hz
    have hb:its.length * k.toNat<=4096:=by rw [hl]; exact hz
    refine call_meets F.slot_tuple_mul ⟨_,ho,rfl⟩ F.entry_tuple_mul (F.args_tuple_mul_2 _ _) (tuple_mul_many a its.toArray n dd sl k t ?_ ?_ ?_ ?_ ?_ ?_) ⟨ho,?_⟩
    · rw [decide_eq_false (by omega),decide_eq_false (by omega)]; exact Bool.false_ne_true
    · intro z
      rcases Bool.or_eq_true_iff.mp z with z | z
      · rw [List.isEmpty_toArray,List.isEmpty_iff] at z; rw [z] at hpos; simp at hpos
      · exact h1 (eq_of_beq z)
    · intro z
      rcases Bool.or_eq_true_iff.mp z with z | z
      · have:=of_decide_eq_true z; omega
      · rw [List.isEmpty_toArray,List.isEmpty_iff] at z; rw [z] at hpos; simp at hpos
    · rw [hlen]; omega
    · rw [hlen]
      have:(4096:Int)<=sizeLine:=by decide
      show ¬ decide (((its.length * k.toNat:Nat):Int) > (sizeLine:Int))=true
      rw [decide_eq_false (by omega)]; exact Bool.false_ne_true
    · rw [f0,List.size_toArray]; exact Nat.le_trans hfl (by decide)
    · rw [f0]
      refine ⟨.ref s.heap.objs.size,_,I.laid (t':=s.toks) (o:=.tup (List.replicate k.toNat xs).flatten) (fun b ob q=>Heap.get?_push_of_some _ q) (Nat.le_refl _) ?_,rfl,q2 h1 _ (I.hok.fresh (Nat.le_refl _))⟩
      exact ⟨by rw [len_rep,Nat.mul_comm]; exact Nat.le_trans hz (by decide),_,r.rep k.toNat,IsTup.new _ _⟩
end
section
variable {X:Cx} {pins:List (Addr × Obj)} {s:Shared} {σ:St} {H:Hp}
open PySem.SeqAt
theorem op_is_bl:OpR X (compareOp .Is) (fun x y H Q=>∃ b c,x=.bl b/\y=.bl c/\Q (.bl (b == c)) H):=by
  intro pins s σ H x y v u Q I rx ry h
  obtain ⟨b,c,rfl,rfl,q⟩:=h
  cases rx
  cases ry
  exact PyProof.Rows.is_bool ⟨.bl _,H,I,rfl,q⟩
theorem op_isnot_bl:OpR X (compareOp .IsNot) (fun x y H Q=>∃ b c,x=.bl b/\y=.bl c/\Q (.bl (b != c)) H):=by
  intro pins s σ H x y v u Q I rx ry h
  obtain ⟨b,c,rfl,rfl,q⟩:=h
  cases rx
  cases ry
  exact PyProof.Rows.isnot_bool ⟨.bl _,H,I,rfl,q⟩
end
end L2
namespace L2
open PySem PySem.Spec PyProof.Rows
end L2
namespace L2
open PySem PySem.Spec PyProof.Rows
section
variable {K:PySem.W.Frag} {cap:List (Option Nat)} {te:TE} {σ:St} {H1:Hp} {Q:VK}
end
structure JE (X:Cx) (e:Expr) (t:TE):Prop where out:PE X e t
structure JA (X:Cx) (es:List Expr) (t:TA):Prop where out:PA X es t
structure JS (X:Cx) (st:Stmt) (t:TS):Prop where out:PS X st t
structure JSs (X:Cx) (sts:List Stmt) (t:TS):Prop where out:PSs X sts t
section
variable {X:Cx} {pos:Pos}
theorem jok {sts:List Stmt} {R:TS->Prop} (h:∃ t,JSs X sts t/\R t):∃ t,PSs X sts t/\R t:=by
  obtain ⟨t,a,b⟩:=h
  exact ⟨t,a.out,b⟩
theorem ja_nil:JA X [] tNil:=⟨pa_nil⟩
theorem ja_cons {e:Expr} {es:List Expr} {te:TE} {t:TA} (ha:JE X e te) (hr:JA X es t) (hs:starEach (e :: es) X.env=(false,eval e X.env) :: starEach es X.env:=by rfl):JA X (e :: es) (tCons te t):=⟨pa_cons ha.out hr.out hs⟩
theorem je_lst {es:List Expr} {t:TA} (h:JA X es t):JE X (.List es pos) (tLst t):=⟨pe_lst h.out⟩
theorem je_str {x:Str} {j:Nat}:JE X (.Constant (.str x) j pos) (tC (.str x)):=⟨pe_str⟩
theorem je_op {a b:Expr} {ta tb:TE} {op:Operator} {r:R2} (ho:OpR X (binaryOp op) r) (ha:JE X a ta) (hb:JE X b tb):JE X (.BinOp a op b pos) (tOp r ta tb):=⟨pe_op ho ha.out hb.out⟩
theorem je_ix {a b:Expr} {ta tb:TE} {r:R2} (hr:IxR X r) (ha:JE X a ta) (hb:JE X b tb) (hs:PlainIx b):JE X (.Subscript a b pos) (tOp r ta tb):=⟨pe_ix hr ha.out hb.out hs⟩
theorem jss_nil:JSs X [] tNext:=⟨pss_nil⟩
theorem jss_cons {st:Stmt} {rest:List Stmt} {t u:TS} (h1:JS X st t) (h2:JSs X rest u):JSs X (st :: rest) (tSeq t u):=⟨pss_cons h1.out h2.out⟩
theorem jss_one {st:Stmt} {t:TS} (h1:JS X st t):JSs X [st] t:=⟨pss_one h1.out⟩
theorem js_if {c:Expr} {a b:List Stmt} {tc:TT} {t u:TS} (hc:PT X c tc) (ha:JSs X a t) (hb:JSs X b u):JS X (.If c a b pos) (tIfS tc t u):=⟨ps_if hc ha.out hb.out⟩
theorem js_ret {e:Expr} {te:TE} (he:JE X e te):JS X (.Return (some e) pos) (tRet te):=⟨ps_ret he.out⟩
theorem js_set {i:Nat} {x:Str} {e:Expr} {te:TE} {pos':Pos} (hN:X.N.Nodup) (hi:X.N[i]?=some x) (hx:Loc X.env.scope x) (he:JE X e te) (hs:swapsWith e (some (.Name x pos')) pos.line X.env=pure false:=by rfl) (hf:X.fn x=true\/X.env.scope.names.lookup x=some .local:=by first | exact .inl rfl | exact .inr rfl | assumption) :
    JS X (.Assign [.Name x pos'] e pos) (tAsg te (gName i)):=⟨ps_set hN hi hx he.out hs hf⟩
end
end L2
namespace L2
open PySem PySem.Spec PyProof.Rows
theorem cellsFrom_look:∀ (names:List (Str × NameKind)) (h:Heap) (acc:List (Str × Addr)) (x:Str) (c:Addr),(cellsFrom h.objs.size names acc).lookup x=some c ->
    acc.lookup x=some c\/((x,NameKind.cell) ∈ names/\h.objs.size<=c/\(pushCells h names).IsCell c none)
  | [],_,_,_,_,e=>.inl e
  | (name,kind) :: r,h,acc,x,c,e=>by
    unfold cellsFrom at e
    unfold pushCells
    by_cases hk:(kind == NameKind.cell)=true
    · rw [if_pos hk] at e ⊢
      have hk':kind=.cell:=by simpa using hk
      have ih:=cellsFrom_look r (h.push { cls:=.type "cell",data:=.cell none }) ((name,h.objs.size) :: acc) x c (by rw [Heap.size_push]; exact e)
      rw [Heap.size_push] at ih
      rcases ih with z | ⟨z1,z2,z3⟩
      · rw [List.lookup_cons] at z
        cases hb:x == name with
        | true=>
          rw [hb] at z; cases z
          exact .inr ⟨by rw [beq_iff_eq.mp hb,hk']; exact List.mem_cons_self,Nat.le_refl _,⟨_,pushCells_keeps _ _ _ _ (Heap.get?_push_size _ rfl),rfl⟩⟩
        | false=>rw [hb] at z; exact .inl z
      · exact .inr ⟨List.mem_cons_of_mem _ z1,by omega,z3⟩
    · rw [if_neg hk] at e ⊢
      rcases cellsFrom_look r h acc x c e with z | ⟨z1,z2,z3⟩
      · exact .inl z
      · exact .inr ⟨List.mem_cons_of_mem _ z1,z2,z3⟩
theorem cellsFrom_old {x:Str}:∀ (names:List (Str × NameKind)) (n:Nat) (acc:List (Str × Addr)),(x,NameKind.cell) ∉ names->(cellsFrom n names acc).lookup x=acc.lookup x
  | [],_,_,_=>rfl
  | (name,kind) :: r,n,acc,h=>by
    unfold cellsFrom
    have hr:(x,NameKind.cell) ∉ r:=fun z=>h (List.mem_cons_of_mem _ z)
    by_cases hk:(kind == NameKind.cell)=true
    · rw [if_pos hk,cellsFrom_old r _ _ hr,List.lookup_cons]
      cases hb:x == name with
      | true=>exact absurd (by rw [beq_iff_eq.mp hb,show kind=.cell by simpa using hk]; exact List.mem_cons_self) h
      | false=>rfl
    · rw [if_neg hk,cellsFrom_old r _ _ hr]
theorem cellsFrom_new {x:Str} {c:Addr}:∀ (names:List (Str × NameKind)) (n:Nat) (acc:List (Str × Addr)),(x,NameKind.cell) ∈ names->(cellsFrom n names acc).lookup x=some c->n<=c
  | [],_,_,h,_=>by cases h
  | (name,kind) :: r,n,acc,h,e=>by
    unfold cellsFrom at e
    by_cases hr:(x,NameKind.cell) ∈ r
    · by_cases hk:(kind == NameKind.cell)=true
      · rw [if_pos hk] at e
        exact Nat.le_of_succ_le (cellsFrom_new r _ _ hr e)
      · rw [if_neg hk] at e
        exact cellsFrom_new r _ _ hr e
    · rcases List.mem_cons.mp h with q | q
      · cases q
        rw [if_pos (by decide),cellsFrom_old r _ _ hr,List.lookup_cons] at e
        simp at e
        exact Nat.le_of_eq e
      · exact absurd q hr
theorem cellsFrom_inj:∀ (names:List (Str × NameKind)) (n:Nat) (acc:List (Str × Addr)),(∀ x c,acc.lookup x=some c->c < n)->(∀ x y c,acc.lookup x=some c->acc.lookup y=some c->x=y) ->
    ∀ x y c,(cellsFrom n names acc).lookup x=some c->(cellsFrom n names acc).lookup y=some c->x=y
  | [],_,_,_,h=>h
  | (name,kind) :: r,n,acc,h1,h2=>by
    unfold cellsFrom
    by_cases hk:(kind == NameKind.cell)=true
    · rw [if_pos hk]
      refine cellsFrom_inj r (n + 1) _ (fun x c e=>?_) (fun x y c e e'=>?_)
      · rw [List.lookup_cons] at e
        cases hb:x == name with
        | true=>rw [hb] at e; cases e; exact Nat.lt_succ_self _
        | false=>rw [hb] at e; exact Nat.lt_succ_of_lt (h1 x c e)
      · rw [List.lookup_cons] at e e'
        cases hb:x == name with
        | true=>
          rw [hb] at e; cases e
          cases hb':y == name with
          | true=>rw [beq_iff_eq.mp hb,beq_iff_eq.mp hb']
          | false=>rw [hb'] at e'; exact absurd (h1 y _ e') (Nat.lt_irrefl _)
        | false=>
          rw [hb] at e
          cases hb':y == name with
          | true=>rw [hb'] at e'; cases e'; exact absurd (h1 x _ e) (Nat.lt_irrefl _)
          | false=>rw [hb'] at e'; exact h2 x y c e e'
    · rw [if_neg hk]
      exact cellsFrom_inj r n acc h1 h2
theorem wpAny_newEnvC {M:Model} {A:Around} {E:Value->Shared->Prop} {s:Shared} {scope:Scope} {globals:Addr} {cl:List (Str × Addr)} {qual:Str} {func:Option Addr} {code:Value} {env:Env} {builtins:Addr} {Q:Env->Shared->Prop}
    (hQ:Q (newEnv scope s.heap.objs.size globals (cellsFrom (s.heap.objs.size + 1) scope.names cl) qual func code (some env) builtins) { s with heap:=pushCells (s.heap.push { cls:=.type "dict",data:=.dict #[] }) scope.names }) :
    wpAny M A (newFunctionEnv scope globals cl [] qual func code (some env) builtins) Q E s:=by
  simp only [newFunctionEnv,Option.isSome_some,if_true]
  refine wpAny_bind (wpAny_alloc ?_)
  refine wpAny_bind (wpAny_layCells _ (fun name kind cells=>by cases hkc:kind == NameKind.cell <;> simp [hkc]) _ _ _ _ ?_)
  rw [show ({ s with heap:=s.heap.push { cls:=.type "dict",data:=.dict #[] } }:Shared).heap.objs.size=s.heap.objs.size + 1 from Heap.size_push ..]
  refine wpAny_bind ?_
  rw [List.forIn_nil]
  exact wpAny_pure (wpAny_pure hQ)
def compOkC (N N':List Str) (sc scE:Scope) (cap:List (Option Nat)):Bool:=
  sc.kind == .function && sc.names.all (fun x=>x.2 != .cell || sc.names.lookup x.1 == some .cell) && sc.names.all (fun x=>x.2 != .local || sc.names.lookup x.1 == some .local) &&
  sc.names.all (fun x=>x.2 != .free || scE.names.lookup x.1 == some .cell || scE.names.lookup x.1 == some .free) && cap.length == N'.length &&
  (List.range cap.length).all (fun i=>match cap[i]? with
    | some (some j)=>(match N'[i]?,N[j]? with | some a,some b=>a == b && sc.names.lookup a == some .free | _,_=>false)
    | _=>true)
structure CompOkC (N N':List Str) (sc scE:Scope) (cap:List (Option Nat)):Prop where
  kind:sc.kind=.function
  cel:∀ x ∈ sc.names,x.2=.cell->sc.names.lookup x.1=some .cell
  loc:∀ x ∈ sc.names,x.2=.local->sc.names.lookup x.1=some .local
  fre:∀ x ∈ sc.names,x.2=.free->scE.names.lookup x.1=some .cell\/scE.names.lookup x.1=some .free
  len:cap.length=N'.length
  at_:∀ (i j:Nat),cap[i]?=some (some j)->∃ x,N'[i]?=some x/\N[j]?=some x/\sc.names.lookup x=some .free
theorem compOkC.of {N N':List Str} {sc scE:Scope} {cap:List (Option Nat)} (h:compOkC N N' sc scE cap=true):CompOkC N N' sc scE cap:=by
  unfold compOkC at h
  simp only [Bool.and_eq_true,List.all_eq_true,beq_iff_eq,Bool.or_eq_true,bne_iff_ne] at h
  obtain ⟨⟨⟨⟨⟨h1,h2⟩,h3⟩,h4⟩,h5⟩,h6⟩:=h
  refine ⟨h1,fun x hx e=>?_,fun x hx e=>?_,fun x hx e=>?_,h5,fun i j e=>?_⟩
  · rcases h2 x hx with z | z
    · exact absurd e z
    · exact z
  · rcases h3 x hx with z | z
    · exact absurd e z
    · exact z
  · rcases h4 x hx with (z | z) | z
    · exact absurd e z
    · exact .inl z
    · exact .inr z
  · have hi:i < cap.length:=(List.getElem?_eq_some_iff.mp e).1
    have:=h6 i (List.mem_range.mpr hi)
    rw [e] at this
    simp only at this
    cases e1:N'[i]? with
    | none=>rw [e1] at this; cases this
    | some a=>
      cases e2:N[j]? with
      | none=>rw [e1,e2] at this; cases this
      | some b=>
        rw [e1,e2] at this
        simp only [Bool.and_eq_true,beq_iff_eq] at this
        obtain ⟨rfl,z⟩:=this
        exact ⟨a,rfl,rfl,z⟩
def blkC (X:Cx) (N':List Str) (sc:Scope) (cl:List (Str × Addr)) (C:Addr) (s0:Shared) (H0:Hp) (ex:List Addr):Cx:=
  { X with N:=N',s₀:=s0,H₀:=H0,env:=compEnvC sc cl C X.env,outer:=X.stack,ex:=ex,fn:=fun x=>sc.names.lookup x == some .cell,pn:=[],xe:=fun _ _=>False }
section
variable {X:Cx}
theorem blk_invC {pins:List (Addr × Obj)} {σ:St} {H:Hp} {s:Shared} {N N':List Str} {sc scE:Scope} {cap:List (Option Nat)} {cl:List (Str × Addr)} {fp:List Addr}
    (I:Inv X pins σ H s) (hN:X.N=N) (hE:X.env.scope=scE) (ck:CompOkC N N' sc scE cap) (c1:∀ x c,cl.lookup x=some c->X.env.cells.lookup x=some c) (c2:∀ x ∈ sc.names,x.2=.free->∃ c,cl.lookup x.1=some c)
    (hf:∀ b ∈ fp,FpOk X pins H b) (hfs:∀ b ∈ fp,b < s.heap.objs.size) :
    Inv (blkC X N' sc (cellsFrom (s.heap.objs.size + 1) sc.names cl) s.heap.objs.size s H fp) [] (capOf cap σ) H { s with heap:=pushCells (s.heap.push { cls:=.type "dict",data:=.dict #[] }) sc.names }:=by
  obtain ⟨h₁,hh₁⟩:∃ h₁,pushCells (s.heap.push { cls:=.type "dict",data:=.dict #[] }) sc.names=h₁:=⟨_,rfl⟩
  obtain ⟨cl',hcl'⟩:∃ cl',cellsFrom (s.heap.objs.size + 1) sc.names cl=cl':=⟨_,rfl⟩
  rw [hh₁,hcl']
  have keep:∀ b o,s.heap.get? b=some o->h₁.get? b=some o:=fun b o e=>by rw [<- hh₁]; exact pushCells_keeps _ _ b o (Heap.get?_push_of_some _ e)
  have hns:h₁.Ns s.heap.objs.size (fun _=>none):=by rw [<- hh₁]; exact (Heap.Ns.new s.heap (.type "dict")).keeps (pushCells_keeps _ _)
  have look:∀ x c,cl'.lookup x=some c->cl.lookup x=some c\/(s.heap.objs.size + 1<=c/\h₁.IsCell c none):=fun x c e=>by
    rw [<- hcl'] at e
    have:=cellsFrom_look (sc.names) (s.heap.push { cls:=.type "dict",data:=.dict #[] }) cl x c (by rw [Heap.size_push]; exact e)
    rw [Heap.size_push,hh₁] at this
    rcases this with z | ⟨_,z,z'⟩
    · exact .inl z
    · exact .inr ⟨z,z'⟩
  have cellLt:∀ x c,cl.lookup x=some c->c < s.heap.objs.size:=fun x c e=>by
    obtain ⟨v,o,ho,_⟩:=I.cell x c (c1 x c e)
    exact Heap.lt_size ho
  have inj:∀ x y c,cl'.lookup x=some c->cl'.lookup y=some c->x=y:=by
    rw [<- hcl']
    exact cellsFrom_inj _ _ _ (fun x c e=>Nat.lt_succ_of_lt (cellLt x c e)) fun x y c a b=>I.ok.inj x y c (c1 x c a) (c1 y c b)
  have isC:∀ x,sc.names.lookup x=some .cell->∃ c,cl'.lookup x=some c:=fun x e=>by
    rw [<- hcl']
    exact Option.isSome_iff_exists.mp (PySem.W.cellsFrom_some _ _ _ (.inl e))
  have isF:∀ x,sc.names.lookup x=some .free->cl'.lookup x=cl.lookup x:=fun x e=>by
    rw [<- hcl']
    refine cellsFrom_old _ _ _ fun z=>?_
    have:=ck.cel _ z rfl
    rw [e] at this; cases this
  have kindOf:∀ x k,(compEnvC sc cl' s.heap.objs.size X.env).kindOf x=some k->k=.cell\/k=.free->sc.names.lookup x=some .free\/sc.names.lookup x=some .cell:=fun x k e hk=>by
    have e':(relabel sc X.env).names.lookup x=some k:=e
    rw [relabel_lookup] at e'
    cases q:sc.names.lookup x with
    | none=>rw [q] at e'; cases e'
    | some k'=>
      rw [q] at e'
      have e'':(if (k' == NameKind.free && X.env.scope.kind == .function && X.env.kindOf x == some .cell)=true then NameKind.cell else k')=k:=Option.some.inj e'
      by_cases hc:(k' == NameKind.free && X.env.scope.kind == .function && X.env.kindOf x == some .cell)=true
      · simp only [Bool.and_eq_true,beq_iff_eq] at hc
        rw [hc.1.1]; exact .inl rfl
      · rw [if_neg hc] at e''
        subst e''
        rcases hk with z | z
        · rw [z]; exact .inr rfl
        · rw [z]; exact .inl rfl
  have cellAt:∀ x c,X.env.cells.lookup x=some c->∀ v,s.heap.IsCell c v->h₁.IsCell c v:=fun x c e v ⟨o,ho,hd⟩=>⟨o,keep c o ho,hd⟩
  have Hnew:∀ c,s.heap.objs.size<=c->H c=none:=fun c hc=>I.hok.fresh hc
  refine ⟨⟨I.ok.mod,ck.kind,I.ok.glob,I.ok.blt,Nat.le_refl _,inj,fun x hx=>?_,fun x c h1 h2=>?_,I.ok.hd,I.ok.frames,.inl rfl,fun b hb=>?_,I.bs,
    Nat.le_trans I.ok.bsz I.sz,fun b o e hb=>?_,fun b hb hz=>?_,I.stack,I.stkFree⟩,rfl,I.bare,Un.kept keep,⟨_,hns,fun i x v e1 e2 e3=>?_⟩,fun x c e=>?_,Hnew _ (Nat.le_refl _),fun x c e=>?_,fun p hp=>(by cases hp),I.hok.kept keep,?_⟩
  · have hx:(compEnvC sc cl' s.heap.objs.size X.env).kindOf x=some .cell\/(compEnvC sc cl' s.heap.objs.size X.env).kindOf x=some .free:=hx
    have q:sc.names.lookup x=some .free\/sc.names.lookup x=some .cell:=by
      rcases hx with z | z
      · exact kindOf x _ z (.inl rfl)
      · exact kindOf x _ z (.inr rfl)
    rcases q with q | q
    · obtain ⟨c,hc⟩:=c2 _ (PySem.mem_of_lookup q) rfl
      exact ⟨c,(isF x q).trans hc⟩
    · exact isC x q
  · have h1:sc.names.lookup x=some .cell:=by simpa [blkC] using h1
    have h2:cl'.lookup x=some c:=h2
    rw [<- hcl'] at h2
    exact Nat.le_trans (Nat.le_succ _) (cellsFrom_new _ _ _ (PySem.mem_of_lookup h1) h2)
  · refine ⟨Nat.ne_of_lt (hfs b hb),fun x c e=>?_⟩
    rcases look x c e with z | ⟨z,_⟩
    · exact (hf b hb).2.2.2.2.1 x c (c1 x c z)
    · exact fun q=>absurd (Nat.lt_of_lt_of_le (hfs b hb) (Nat.le_trans (Nat.le_succ _) (q ▸ z))) (Nat.lt_irrefl _)
  · rcases (hf b hb).2.2.2.1 with z | z
    · exact I.ok.noex b o e z
    · exact absurd (Nat.lt_of_lt_of_le (Heap.lt_size e) (Nat.le_trans I.ok.bsz z)) (Nat.lt_irrefl _)
  · rcases List.mem_cons.mp (I.stkSub b hz) with e | z
    · exact (hf b hb).2.1 e
    · exact (hf b hb).2.2.1 z
  · have e1:N'[i]?=some x:=e1
    have e2:(capOf cap σ)[i]?=some (some v):=e2
    unfold capOf at e2
    rw [List.getElem?_map] at e2
    cases q:cap[i]? with
    | none=>rw [q] at e2; cases e2
    | some oj=>
      rw [q] at e2
      cases oj with
      | none=>cases e2
      | some j=>
        obtain ⟨y,z1,z2,z3⟩:=ck.at_ i j q
        rw [e1] at z1; cases z1
        have ev:σ[j]?=some (some v):=by
          have e2':(σ[j]?).join=some v:=Option.some.inj e2
          cases r:σ[j]? with
          | none=>rw [r] at e2'; cases e2'
          | some o=>rw [r] at e2'; exact congrArg some e2'
        obtain ⟨m',hm',hl⟩:=I.loc
        have sK:X.env.scope.names.lookup x=some .cell\/X.env.scope.names.lookup x=some .free:=by rw [hE]; exact ck.fre _ (PySem.mem_of_lookup z3) rfl
        obtain ⟨u,ru,l⟩:=hl j x v (by rw [hN]; exact z2) ev (sK.elim (fun z=>.inr (.inl z)) fun z=>.inr (.inr z))
        refine ⟨u,ru,?_⟩
        obtain ⟨c,hc⟩:=c2 _ (PySem.mem_of_lookup z3) rfl
        rcases l with ⟨k,_⟩ | ⟨k,c',hc',hcell⟩
        · have k:X.env.scope.names.lookup x=some .local:=k
          rcases sK with z | z <;> (rw [k] at z; cases z)
        · have:c=c':=by
            have q1:=c1 x c hc
            rw [hc'] at q1
            exact (Option.some.inj q1).symm
          subst this
          refine .inr ⟨?_,c,(isF x z3).trans hc,cellAt x c hc' _ hcell⟩
          show (relabel sc X.env).names.lookup x=some .cell\/(relabel sc X.env).names.lookup x=some .free
          rw [relabel_lookup,z3]
          show some (if _ then NameKind.cell else NameKind.free)=_\/some (if _ then NameKind.cell else NameKind.free)=_
          split
          · exact .inl rfl
          · exact .inr rfl
  · rcases look x c e with z | ⟨_,z⟩
    · obtain ⟨v,q⟩:=I.cell x c (c1 x c z)
      exact ⟨v,cellAt x c (c1 x c z) v q⟩
    · exact ⟨_,z⟩
  · rcases look x c e with z | ⟨z,_⟩
    · exact I.freeC x c (c1 x c z)
    · exact Hnew c (by omega)
  · unfold capOf
    show _=N'.length
    rw [List.length_map]
    exact ck.len
end
end L2
namespace L2
open PySem PySem.Spec PyProof.Rows
section
variable {X:Cx}
end
end L2
namespace PySem
open Sem (wp)
section
variable {prog:Program} {w:World} {A:Around} {E:Value->Shared->Prop} {hp:Heap} {gs:Array GenState} {dr:Drawn} {tk:Nat} {sy:OsState}
variable {cn cq:Str} {kC kN:Addr} {bas tl tB:List Value} {hd:Bool} {sns:List Str} {subs:List Value} {abb:Bool} {coll:Option Bool} {dic:Option Addr} {j0 j1 j2 j3 j5:Option Value} {BB Bn newI nI initI inN:String} {tN:List Value}
end
section
variable {M:Model} {A:Around} {E:Value->Shared->Prop} {env:Env}
variable {cn cq:Str} {kC kN:Addr} {bas tl:List Value} {hd:Bool} {sns:List Str} {subs:List Value} {abb:Bool} {coll:Option Bool} {dic:Option Addr} {j0 j1 j2 j3 j5:Option Value} {newI:String}
end
end PySem
namespace L2
open PySem PySem.Spec PyProof.Rows PySem.W PySem.Builtin.ObjectAttr
section
variable {prog:Program} {w:World} {A:Around} {E:Value->Shared->Prop} {s:Shared} {K:Frag} {x C W:Addr} {name:Str} {v:Value}
end
end L2
namespace L2
open PySem PySem.Spec PyProof.Rows PySem.W
section
variable {prog:Program} {w:World} {A:Around} {E:Value->Shared->Prop} {s:Shared} {K:Frag} {x C W f:Addr}
end
section
variable {X:Cx} {x C W f:Addr}
end
end L2
namespace PySem
open Sem (wp)
def fld2 (o:Obj):Option Value:=match o.data with | .fields vs=>vs[2]? | _=>none
theorem fld2_map {o:Obj} {vs:Array Value} {x:Value} (od:o.data=.fields vs):fld2 (Obj.mapFields (·.setIfInBounds 1 x) o)=fld2 o:=by
  have d:=Obj.data_mapFields od (·.setIfInBounds 1 x)
  unfold fld2
  rw [d,od]
  exact Array.getElem?_setIfInBounds_ne (by decide)
section
variable {M:Model} {A:Around} {E:Value->Shared->Prop} {s:Shared} {bs:Heap} {en:Env} {ou:List Env} {L e:Addr} {ob:Obj} {vs:Array Value} {a0:Value} {Q:Unit->Shared->Prop}
theorem entry_dict {head:Value} {nx:Bool} (fr:A.frames=some (en :: ou)) (ff:s.heap.FunFrames bs (en :: ou)) (ef:en.frame=some L) (oe:s.heap.get? e=some ob) (kb:bs.StaysIn s.heap) (ne:bs.get? e=none)
    (od:ob.data=.fields vs) (z1:1 < vs.size) (z0:vs[0]?=some a0)
    (h:∀ h',Heap.LeftW bs (en :: ou) e ob.cls a0 s.heap h'->(∃ o',h'.get? e=some o'/\o'.dict=ob.dict/\fld2 o'=fld2 ob)->Q () { s with heap:=h' }) :
    wpAny M A (do
      let a <- frameOf en
      let pl <- entryPlaceOf L nx
      let b <- EntryCells.newEntry head a .none (rawInt L) .none pl
      setField (.ref e) 1 b) (fun _ s'=>wpAny M A (setFlight (.ref e) none) Q E s') E s:=by
  have nf:e ∉ (en :: ou).filterMap (·.frame):=fun m=>by
    obtain ⟨_,o,q,n⟩:=ff.mem m
    rw [oe] at q
    cases q
    exact n vs od
  refine wpAny_bind (wpAny_frameOf_fun fr ff ef fun g gs=>?_)
  refine wpAny_bind (wpAny_entryPlaceOf fun pl hp=>?_)
  unfold EntryCells.newEntry newFields
  refine wpAny_bind (wpAny_newObj_type ?_ (hp.sizeOk5 _ _ _ _ _))
  have ge:g.get? e=some ob:=(gs.2.1 e nf).trans oe
  have gb:bs.StaysIn g:=fun b o q=>(gs.2.1 b fun m=>by
    rw [(ff.mem m).1] at q
    cases q).trans (kb b o q)
  obtain ⟨tb,etb⟩:∃ tb:List Value,[head,.ref L,.none,rawInt L,.none] ++ (if pl.isEmpty then List.replicate 6 Value.none else pl)=tb:=⟨_,rfl⟩
  have l5:3 < tb.length/\tb[3]?=some (rawInt L):=by
    rw [<- etb]
    exact ⟨by simp,by simp⟩
  rw [etb]
  have ge2:=Heap.get?_push_of_some (h:=g) { cls:=.type "traceback",dict:=none,data:=.fields tb.toArray } ge
  refine wpAny_setField ge2 od z1 ?_
  have te:g.objs.size ≠ e:=Nat.ne_of_gt (Heap.lt_size ge)
  have d3:=Obj.data_mapFields od (·.setIfInBounds 1 (Value.ref g.objs.size))
  have ge3:=Heap.get?_update_self (Obj.mapFields (·.setIfInBounds 1 (Value.ref g.objs.size))) ge2 (Obj.isFreed_of_fields d3)
  have gt3:=(Heap.get?_update_other (g.push { cls:=.type "traceback",dict:=none,data:=.fields tb.toArray })
    (Obj.mapFields (·.setIfInBounds 1 (Value.ref g.objs.size))) te.symm).trans
    (Heap.get?_push_size g rfl)
  unfold setFlight
  refine wpAny_bind (wpAny_field ge3 d3 (x:=.ref g.objs.size) (by simp [z1]) ?_)
  rw [if_pos (show (Value.ref g.objs.size != Value.none)=true by simp)]
  refine wpAny_setField gt3 rfl (by simpa using l5.1) (h _ ?_ ?_)
  all_goals
    obtain ⟨g3,eg3⟩:∃ g3,((g.push { cls:=.type "traceback",dict:=none,data:=.fields tb.toArray }).update e (Obj.mapFields (·.setIfInBounds 1 (Value.ref g.objs.size))))=g3:=⟨_,rfl⟩
    rw [eg3] at ge3 gt3 ⊢
  · have kp:∀ b o,b ≠ e->g.get? b=some o->(g3.update g.objs.size (Obj.mapFields (·.setIfInBounds 3 ((none:Option Addr).elim Value.none fun f=>rawInt f)))).get? b=some o:=fun b o n q=>by
      rw [Heap.get?_update_other _ _ (Nat.ne_of_gt (Heap.lt_size q)),<- eg3,Heap.get?_update_other _ _ n.symm]
      exact Heap.get?_push_of_some _ q
    have nr:∀ b o,s.heap.get? b=some o->(∀ ws,o.data ≠ .fields ws)->b ≠ e:=fun b o q n z=>by
      rw [z,oe] at q
      cases q
      exact n vs od
    refine ⟨fun b o q=>kp b o (fun z=>by rw [z,ne] at q; cases q) (gb b o q),ff.of_keeps fun b o q n=>?_,?_,fun b o q n=>?_⟩
    · obtain ⟨sl,z⟩:=gs.2.2 b o q
      exact ⟨_,kp b _ (nr b o q n) z,rfl⟩
    · refine ⟨_,_,g.objs.size,_,_,?_,⟨Obj.cls_mapFields _ _,?_⟩,d3,by simp [z1],gb.fresh,te,Heap.get?_update_self _ gt3 (Obj.isFreed_of_fields (Obj.data_mapFields rfl _)),Obj.data_mapFields rfl _,?_⟩
      · rw [Heap.get?_update_other _ _ te]
        exact ge3
      · rw [Array.getElem?_setIfInBounds_ne (by decide)]
        exact z0
      · have:=l5.1
        simp [this]
    · obtain ⟨sl,z⟩:=gs.2.2 b o q
      exact ⟨sl,kp b _ (nr b o q n) z⟩
  · refine ⟨_,(Heap.get?_update_other _ _ te).trans ge3,?_,fld2_map od⟩
    cases ob with
    | mk c d dt sl=>cases dt <;> first | rfl | cases od
theorem leave1_dict (fr:A.frames=some (en :: ou)) (ff:s.heap.FunFrames bs (en :: ou)) (ef:en.frame=some L) (oe:s.heap.get? e=some ob) (kb:bs.StaysIn s.heap) (ne:bs.get? e=none)
    (od:ob.data=.fields vs) (z1:vs[1]?=some .none) (z0:vs[0]?=some a0)
    (h:∀ h',Heap.LeftW bs (en :: ou) e ob.cls a0 s.heap h'->(∃ o',h'.get? e=some o'/\o'.dict=ob.dict/\fld2 o'=fld2 ob)->Q () { s with heap:=h' }):wpAny M A (leaving en (.ref e)) Q E s:=by
  unfold leaving noteFrame
  simp only [ef]
  refine wpAny_bind (wpAny_bind (wpAny_field oe od z1 ?_))
  rw [if_neg (by decide)]
  exact entry_dict fr ff ef oe kb ne od (Array.getElem?_eq_some_iff.mp z1).1 z0 h
theorem leave2_dict {cls:Value} {dv:Option Addr} (fr:A.frames=some (en :: ou)) (ef:en.frame=some L) (fl:Heap.FlyingW bs (en :: ou) e cls a0 s.heap) (dd:∃ o',s.heap.get? e=some o'/\o'.dict=dv/\fld2 o'=some .none)
    (h:∀ h',Heap.FlyingW bs ou e cls a0 h'->(∃ o',h'.get? e=some o'/\o'.dict=dv/\fld2 o'=some .none)->s.heap.UpToSlots h'->Q () { s with heap:=h' }):wpAny M A (leaving en (.ref e)) Q E s:=by
  obtain ⟨kb,ne,ff,oe,ws,T,oT,ts,he,⟨hc,z0⟩,od,z1,nT,Te,hT,dT,z3⟩:=fl
  obtain ⟨o',ho',hdv,hfl⟩:=dd
  rw [he] at ho'
  cases ho'
  unfold leaving noteFrame
  simp only [ef]
  refine wpAny_bind (wpAny_bind (wpAny_field he od z1 ?_))
  rw [if_pos (show (Value.ref T != Value.none)=true by simp)]
  refine wpAny_bind (wpAny_field hT dT z3 ?_)
  rw [if_neg (show ¬ ((Value.none == rawInt L)=true) by simp [rawInt])]
  refine wpAny_bind (wpAny_setField hT dT (Array.getElem?_eq_some_iff.mp z3).1 ?_)
  have ot:∀ b,b ≠ T->(s.heap.update T (Obj.mapFields (·.setIfInBounds 3 Value.none))).get? b=s.heap.get? b:=fun b n=>Heap.get?_update_other _ _ n.symm
  have nr:∀ b o,s.heap.get? b=some o->(∀ ws,o.data ≠ .fields ws)->b ≠ T:=fun b o q n z=>by
    rw [z,hT] at q
    cases q
    exact n ts dT
  refine entry_dict fr (ff.of_keeps fun b o q n=>⟨o,(ot b (nr b o q n)).trans q,rfl⟩) ef ((ot e Te.symm).trans he) (fun b o q=>(ot b fun z=>by rw [z,nT] at q; cases q).trans (kb b o q)) ne od (Array.getElem?_eq_some_iff.mp z1).1 z0 fun h' lf d'=>?_
  obtain ⟨k1,⟨_,_,k2⟩,k3,k4⟩:=lf
  rw [hc] at k3
  exact h h' ⟨k1,ne,k2,k3⟩ (d'.imp fun o q=>⟨q.1,q.2.1.trans hdv,q.2.2.trans hfl⟩) fun b o q n=>k4 b o ((ot b (nr b o q n)).trans q) n
theorem note_entry_dict {head:Value} {nx:Bool} (fr:A.frames=some (en :: ou)) (ff:s.heap.FunFrames bs (en :: ou)) (ef:en.frame=some L) (oe:s.heap.get? e=some ob) (kb:bs.StaysIn s.heap) (ne:bs.get? e=none)
    (od:ob.data=.fields vs) (z1:1 < vs.size) (z0:vs[0]?=some a0)
    (h:∀ h',Heap.NotedW bs (en :: ou) e ob.cls a0 (rawInt L) s.heap h'->(∃ o',h'.get? e=some o'/\o'.dict=ob.dict/\fld2 o'=fld2 ob)->Q () { s with heap:=h' }) :
    wpAny M A (do
      let a <- frameOf en
      let pl <- entryPlaceOf L nx
      let b <- EntryCells.newEntry head a .none (rawInt L) .none pl
      setField (.ref e) 1 b) Q E s:=by
  have nf:e ∉ (en :: ou).filterMap (·.frame):=fun m=>by
    obtain ⟨_,o,q,n⟩:=ff.mem m
    rw [oe] at q
    cases q
    exact n vs od
  refine wpAny_bind (wpAny_frameOf_fun fr ff ef fun g gs=>?_)
  refine wpAny_bind (wpAny_entryPlaceOf fun pl hp=>?_)
  unfold EntryCells.newEntry newFields
  refine wpAny_bind (wpAny_newObj_type ?_ (hp.sizeOk5 _ _ _ _ _))
  have ge:g.get? e=some ob:=(gs.2.1 e nf).trans oe
  have gb:bs.StaysIn g:=fun b o q=>(gs.2.1 b fun m=>by
    rw [(ff.mem m).1] at q
    cases q).trans (kb b o q)
  obtain ⟨tb,etb⟩:∃ tb:List Value,[head,.ref L,.none,rawInt L,.none] ++ (if pl.isEmpty then List.replicate 6 Value.none else pl)=tb:=⟨_,rfl⟩
  have l5:3 < tb.length/\tb[3]?=some (rawInt L):=by
    rw [<- etb]
    exact ⟨by simp,by simp⟩
  rw [etb]
  have ge2:=Heap.get?_push_of_some (h:=g) { cls:=.type "traceback",dict:=none,data:=.fields tb.toArray } ge
  have te:g.objs.size ≠ e:=Nat.ne_of_gt (Heap.lt_size ge)
  have d3:=Obj.data_mapFields od (·.setIfInBounds 1 (Value.ref g.objs.size))
  have ge3:=Heap.get?_update_self (Obj.mapFields (·.setIfInBounds 1 (Value.ref g.objs.size))) ge2 (Obj.isFreed_of_fields d3)
  have gt3:=(Heap.get?_update_other (g.push { cls:=.type "traceback",dict:=none,data:=.fields tb.toArray })
    (Obj.mapFields (·.setIfInBounds 1 (Value.ref g.objs.size))) te.symm).trans
    (Heap.get?_push_size g rfl)
  refine wpAny_setField ge2 od z1 (h _ ?_ ?_)
  · have kp:∀ b o,b ≠ e->g.get? b=some o->((g.push { cls:=.type "traceback",dict:=none,data:=.fields tb.toArray }).update e (Obj.mapFields (·.setIfInBounds 1 (Value.ref g.objs.size)))).get? b=some o:=fun b o n q=>by
      rw [Heap.get?_update_other _ _ n.symm]
      exact Heap.get?_push_of_some _ q
    have nr:∀ b o,s.heap.get? b=some o->(∀ ws,o.data ≠ .fields ws)->b ≠ e:=fun b o q n z=>by
      rw [z,oe] at q
      cases q
      exact n vs od
    refine ⟨fun b o q=>kp b o (fun z=>by rw [z,ne] at q; cases q) (gb b o q),ff.of_keeps fun b o q n=>?_,?_,fun b o q n=>?_⟩
    · obtain ⟨sl,z⟩:=gs.2.2 b o q
      exact ⟨_,kp b _ (nr b o q n) z,rfl⟩
    · refine ⟨_,_,g.objs.size,_,_,ge3,⟨Obj.cls_mapFields _ _,?_⟩,d3,by simp [z1],gb.fresh,te,gt3,rfl,by simpa using l5.2⟩
      rw [Array.getElem?_setIfInBounds_ne (by decide)]
      exact z0
    · obtain ⟨sl,z⟩:=gs.2.2 b o q
      exact ⟨sl,kp b _ (nr b o q n) z⟩
  · refine ⟨_,ge3,?_,fld2_map od⟩
    cases ob with
    | mk c d dt sl=>cases dt <;> first | rfl | cases od
theorem look_dict {cls:Value} {dv:Option Addr} (fr:A.frames=some (en :: ou)) (ef:en.frame=some L) (fl:Heap.FlyingW bs (en :: ou) e cls a0 s.heap) (dd:∃ o',s.heap.get? e=some o'/\o'.dict=dv/\fld2 o'=some .none)
    (h:∀ h',Heap.HeldW bs (en :: ou) e cls a0 L h'->(∃ o',h'.get? e=some o'/\o'.dict=dv/\fld2 o'=some .none)->s.heap.UpToSlots h'->Q () { s with heap:=h' }):wpAny M A (noteFrame (.ref e) en) Q E s:=by
  obtain ⟨kb,ne,ff,oe,ws,T,oT,ts,he,⟨hc,z0⟩,od,z1,nT,Te,hT,dT,z3⟩:=fl
  obtain ⟨o',ho',hdv,hfl⟩:=dd
  rw [he] at ho'
  cases ho'
  unfold noteFrame
  simp only [ef]
  refine wpAny_bind (wpAny_field he od z1 ?_)
  rw [if_pos (show (Value.ref T != Value.none)=true by simp)]
  refine wpAny_bind (wpAny_field hT dT z3 ?_)
  rw [if_neg (show ¬ ((Value.none == rawInt L)=true) by simp [rawInt])]
  refine wpAny_bind (wpAny_setField hT dT (Array.getElem?_eq_some_iff.mp z3).1 ?_)
  have ot:∀ b,b ≠ T->(s.heap.update T (Obj.mapFields (·.setIfInBounds 3 Value.none))).get? b=s.heap.get? b:=fun b n=>Heap.get?_update_other _ _ n.symm
  have nr:∀ b o,s.heap.get? b=some o->(∀ ws,o.data ≠ .fields ws)->b ≠ T:=fun b o q n z=>by
    rw [z,hT] at q
    cases q
    exact n ts dT
  refine note_entry_dict fr (ff.of_keeps fun b o q n=>⟨o,(ot b (nr b o q n)).trans q,rfl⟩) ef ((ot e Te.symm).trans he) (fun b o q=>(ot b fun z=>by rw [z,nT] at q; cases q).trans (kb b o q)) ne od (Array.getElem?_eq_some_iff.mp z1).1 z0 fun h' nt d'=>?_
  obtain ⟨k1,k2,k3,k4⟩:=nt
  rw [hc] at k3
  exact h h' ⟨k1,ne,k2,k3⟩ (d'.imp fun o q=>⟨q.1,q.2.1.trans hdv,q.2.2.trans hfl⟩) fun b o q n=>k4 b o ((ot b (nr b o q n)).trans q) n
theorem flight_dict {l:List Env} {cls fv:Value} {dv:Option Addr} (kb:bs.StaysIn s.heap) (ne:bs.get? e=none) (ff:s.heap.FunFrames bs l) (tr:s.heap.TracedAtW bs e cls a0 fv) (dd:∃ o',s.heap.get? e=some o'/\o'.dict=dv/\fld2 o'=some .none)
    (h:∀ h',Heap.FlyingW bs l e cls a0 h'->(∃ o',h'.get? e=some o'/\o'.dict=dv/\fld2 o'=some .none)->s.heap.UpToSlots h'->Q () { s with heap:=h' }):wpAny M A (setFlight (.ref e) none) Q E s:=by
  obtain ⟨oe,ws,T,oT,ts,he,hc,od,z1,nT,Te,hT,dT,z3⟩:=tr
  obtain ⟨o',ho',hdv,hfl⟩:=dd
  have s3:=(Array.getElem?_eq_some_iff.mp z3).1
  have ot:∀ b,b ≠ T->(s.heap.update T (Obj.mapFields (·.setIfInBounds 3 ((none:Option Addr).elim Value.none fun f=>rawInt f)))).get? b=s.heap.get? b:=fun b n=>Heap.get?_update_other _ _ n.symm
  have nr:∀ b o,s.heap.get? b=some o->(∀ ws,o.data ≠ .fields ws)->b ≠ T:=fun b o q n z=>by
    rw [z,hT] at q
    cases q
    exact n ts dT
  unfold setFlight
  refine wpAny_bind (wpAny_field he od z1 ?_)
  rw [if_pos (show (Value.ref T != Value.none)=true by simp)]
  refine wpAny_setField hT dT s3 (h _ ⟨fun b o q=>(ot b fun z=>by rw [z,nT] at q; cases q).trans (kb b o q),ne,ff.of_keeps fun b o q n=>⟨o,(ot b (nr b o q n)).trans q,rfl⟩,?_⟩ ⟨o',(ot e Te.symm).trans ho',hdv,hfl⟩ fun b o q n=>⟨o.slots,(ot b (nr b o q n)).trans q⟩)
  exact ⟨oe,ws,T,_,_,(ot e Te.symm).trans he,hc,od,z1,nT,Te,Heap.get?_update_self _ hT (Obj.isFreed_of_fields (Obj.data_mapFields dT _)),Obj.data_mapFields dT _,by simp [s3]⟩
end
end PySem
namespace L2
open PySem PySem.Spec PyProof.Rows
def CXD (P:Program) (w:World):CXT:=fun outer H s E e s'=>∃ a cls a0 dv H' B,e=Value.ref a/\Fly P w outer H H' s s' a cls a0 B/\(∃ o',s'.heap.get? a=some o'/\o'.dict=dv/\fld2 o'=some .none)/\E cls dv H'
theorem pass00D {P:Program} {w:World} {X:Cx}:Passes (CXD P w) X E0:=fun _ _ _ _ _ _ _ h=>by
  obtain ⟨_,_,_,_,_,_,_,_,_,z⟩:=h
  exact z.elim
section
variable {P:Program} {w:World} {K:PySem.W.Frag} {mg:Str->Option Value} {base:Heap} {N:List Str} {qual:Str} {scope:Scope} {f:Addr} {cd:Value} {A:Around} {outer:List Env} {s:Shared} {H:Hp} {E:XK}
abbrev cxD (P:Program) (w:World) (K:PySem.W.Frag) (mg:Str->Option Value) (base:Heap) (N:List Str) (qual:Str) (scope:Scope) (f:Addr) (cd:Value) (A:Around) (outer:List Env) (s:Shared) (H:Hp) (E:XK):Cx:=cxOf (CXD P w) P w K mg base N qual scope f cd A outer s H E
theorem stk_neD {pins:List (Addr × Obj)} {σ:St} {H1:Hp} {s1:Shared} (I:Inv (cxD P w K mg base N qual scope f cd A outer s H E) pins σ H1 s1) {b:Addr} {o:Obj} (e:s.heap.get? b=some o) (n:b ∉ frs outer):b ∉ frs (cxD P w K mg base N qual scope f cd A outer s H E).stack:=fun hb=>by
  rcases List.mem_cons.mp (I.stkSub b hb) with z | z
  · have h1:b < s.heap.objs.size:=Heap.lt_size e
    have h2:s.heap.objs.size<=(cxD P w K mg base N qual scope f cd A outer s H E).env.locals:=I.ok.above
    rw [<- z] at h2
    exact absurd (Nat.lt_of_lt_of_le h1 h2) (Nat.lt_irrefl _)
  · exact n z
theorem frs_subD {b:Addr} (h:b ∈ frs outer):b ∈ frs (cxD P w K mg base N qual scope f cd A outer s H E).stack:=by
  show b ∈ frs (_ :: outer)
  unfold frs at h ⊢
  rw [List.filterMap_cons]
  split
  · exact h
  · exact List.mem_cons_of_mem _ h
theorem raiseD {pins:List (Addr × Obj)} {σ:St} {H1:Hp} {s1:Shared} {hx:Heap} {e C t:Addr} {dv:Option Addr} (I:Inv (cxD P w K mg base N qual scope f cd A outer s H E) pins σ H1 s1)
    (hk:∀ b o,b ≠ e->s1.heap.get? b=some o->hx.get? b=some o) (he1:∀ o,s1.heap.get? e=some o->∃ vs,o.data=.fields vs) (new:s.heap.get? e=none) (hH:H1 e=none)
    (oe:hx.get? e=some { cls:=.ref C,dict:=dv,data:=.fields #[.ref t,.none,.none,.none,.bool false,.none] }) (hE:E (.ref C) dv H1) :
    (cxD P w K mg base N qual scope f cd A outer s H E).xe (.ref e) { s1 with heap:=hx }:=by
  have hin:∀ en ∈ (cxD P w K mg base N qual scope f cd A outer s H E).stack,∀ b,en.frame=some b->b ∈ e :: frs (cxD P w K mg base N qual scope f cd A outer s H E).stack:=fun en he b hb=>List.mem_cons_of_mem _ (List.mem_filterMap.mpr ⟨en,he,hb⟩)
  have ff:=PySem.W.funFrames_hide I.stack hin
  have nee:∀ b o,s1.heap.get? b=some o->(∀ vs,o.data ≠ .fields vs)->b ≠ e:=fun b o q n z=>by
    subst z
    obtain ⟨vs,d⟩:=he1 o q
    exact n vs d
  have hid:(PySem.W.hideAll s1.heap (e :: frs (cxD P w K mg base N qual scope f cd A outer s H E).stack)).get? e=none:=PySem.W.hideAll_none _ List.mem_cons_self
  have kb:(PySem.W.hideAll s1.heap (e :: frs (cxD P w K mg base N qual scope f cd A outer s H E).stack)).StaysIn hx:=fun b o q=>hk b o (fun z=>by rw [z,hid] at q; cases q) (PySem.W.of_hideAll _ q)
  show wpAny (model P w) _ (leaving _ (.ref e)) _ _ _
  refine leave1_dict (bs:=PySem.W.hideAll s1.heap (e :: frs (cxD P w K mg base N qual scope f cd A outer s H E).stack)) (a0:=.ref t) (s:={ s1 with heap:=hx }) I.ok.frames (ff.of_keeps fun b o q n=>⟨o,hk b o (nee b o q n) q,rfl⟩) rfl oe kb hid rfl rfl rfl fun h2 lf dd=>?_
  obtain ⟨k1,⟨_,_,k2⟩,k3,k4⟩:=lf
  have noex:∀ b:Addr,b ∉ (cxD P w K mg base N qual scope f cd A outer s H E).ex:=fun b z=>absurd (show b ∈ ([]:List Addr) from z) (by simp)
  have nse:∀ b o,s.heap.get? b=some o->b ≠ e:=fun b o q z=>by rw [z,new] at q; cases q
  have out:∀ b o,s.heap.get? b=some o->b ∉ frs outer->b ∉ e :: frs (cxD P w K mg base N qual scope f cd A outer s H E).stack:=fun b o q n m=>by
    rcases List.mem_cons.mp m with z | z
    · exact nse b o q z
    · exact stk_neD I q n z
  refine ⟨e,.ref C,.ref t,dv,H1,_,rfl,⟨I.os,I.bare,⟨k1,hid,k2,k3⟩,fun b u q=>?_,fun b o q n hb=>?_,fun b o q hb=>?_,fun b o q hb=>?_,fun b o q n=>I.base.free b o q n (noex b),I.base.tups,I.base.frzs,I.base.tbls⟩,dd,hE⟩
  · have ne:∀ c v,H1 c=some v->c ∉ e :: frs (cxD P w K mg base N qual scope f cd A outer s H E).stack:=fun c v z m=>by
      rcases List.mem_cons.mp m with m | m
      · rw [m,hH] at z; cases z
      · rw [I.stkFree c m] at z; cases z
    refine (I.hok b u q).stay (fun c v hc r=>PySem.W.hideAll_get _ r ?_) (fun _ r=>r) fun _ _ r=>r
    rcases hc with rfl | hc
    · exact ne c u q
    · exact ne c _ hc
  · exact PySem.W.hideAll_get _ (I.base.keep b o q n hb (noex b)) (out b o q hb)
  · obtain ⟨o',z⟩:=I.base.there b o q (noex b)
    exact ⟨o',PySem.W.hideAll_get _ z (out b o q hb)⟩
  · obtain ⟨sl,z⟩:=I.base.slot b o q (I.ok.frf b hb) hb (noex b)
    obtain ⟨_,o',ho',hnf⟩:=I.ok.funs.mem hb
    have ho2:s.heap.get? b=some o':=ho'
    rw [q] at ho2
    cases ho2
    obtain ⟨sl',z'⟩:=k4 b _ (hk b _ (nse b o q) z) hnf
    exact ⟨sl',z'⟩
theorem Qd:Passes (CXD P w) (cxD P w K mg base N qual scope f cd A outer s H E) E:=by
  intro pins σ H1 s1 e s' I h
  obtain ⟨a,cls,a0,dv,H',B,rfl,F,dd,hE⟩:=h
  show wpAny (model P w) _ (leaving _ (.ref a)) _ _ _
  have noex:∀ b:Addr,b ∉ (cxD P w K mg base N qual scope f cd A outer s H E).ex:=fun b z=>absurd (show b ∈ ([]:List Addr) from z) (by simp)
  refine leave2_dict I.ok.frames rfl F.fl dd fun h2 x1 d2 x2=>?_
  refine ⟨a,cls,a0,dv,H',B,rfl,⟨F.os.trans I.os,F.bare,x1,F.hokB,fun b o q n hb=>?_,fun b o q hb=>?_,fun b o q hb=>?_,fun b o q n=>?_,fun b xs q=>F.tups b xs (I.base.tups b xs q),fun b o u q=>F.frzs b o u (I.base.frzs b o u q),fun b ps q=>?_⟩,d2,hE⟩
  · exact F.keep b o (I.base.keep b o q n hb (noex b)) (I.base.free b o q n (noex b)) (stk_neD I q hb)
  · obtain ⟨o',z⟩:=I.base.there b o q (noex b)
    exact F.there b o' z (stk_neD I q hb)
  · obtain ⟨sl,z⟩:=I.base.slot b o q (I.ok.frf b hb) hb (noex b)
    obtain ⟨_,o',ho',hnf⟩:=I.ok.funs.mem hb
    have ho2:s.heap.get? b=some o':=ho'
    rw [q] at ho2
    cases ho2
    obtain ⟨sl',z'⟩:=F.slot b _ z (frs_subD hb)
    obtain ⟨sl2,z2⟩:=x2 b _ z' hnf
    exact ⟨sl2,z2⟩
  · obtain ⟨o',z⟩:=I.base.there b o q (noex b)
    exact F.free b o' z (I.base.free b o q n (noex b))
  · obtain ⟨m1,e1⟩:=I.base.tbls b ps q
    obtain ⟨m2,e2⟩:=F.tbls b _ e1
    exact ⟨m1 ++ m2,by rw [e2,Array.append_assoc]⟩
end
section
variable {X:Cx}
def RaiseD (X:Cx) (E:XK):Prop:=∀ (pins:List (Addr × Obj)) (σ:St) (H0 H1:Hp) (s0 s1:Shared) (hx:Heap) (e C t:Addr) (dv:Option Addr),Inv X pins σ H0 s0->s0.heap.get? e=none->Inv X pins σ H1 s1->(∀ b o,b ≠ e->s1.heap.get? b=some o->hx.get? b=some o) ->
  (∀ o,s1.heap.get? e=some o->∃ vs,o.data=.fields vs)->H1 e=none->hx.get? e=some { cls:=.ref C,dict:=dv,data:=.fields #[.ref t,.none,.none,.none,.bool false,.none] }->E (.ref C) dv H1->X.xe (.ref e) { s1 with heap:=hx }
theorem ps_raiseD {x:Str} {C:Addr} {e:Expr} {t:TA} {E:XK} {np cpos pos:Pos} (hcalm:X.calm=true) (RO:RaiseD X E) (hg:Gl X x) (hm:X.mg x=some (.ref C)) (q:PySem.W.excIn X.K C bmVE "ValueError.__new__" = true) (ha:PA X [e] t)
    (hdb:(x == ("__debug__" : Str))=false:=by decide) (he:starEach [e] X.env=[(false,eval e X.env)]:=by rfl):PS X (.Raise (some (.Call (.Name x np) [e] [] cpos)) none pos) (tRaise C E t):=by
  intro pins s σ H D I h
  obtain ⟨tl,N,nm,qn,bs,hdct,sn,sub,ab,col,dd,k0,k1,k2,k3,k5,mN,hC,hN,hni,T⟩:=(own_obj I.mod.kin hm q).obj
  refine wpAny_Raise_call_subU (C:=C) (nm:=nm) (q:=qn) (N:=N) (bs:=bs) (bm:=tl) (hdct:=hdct) (sn:=sn) (sub:=sub) (ab:=ab) (col:=col) (dd:=dd) (k0:=k0) (k1:=k1) (k2:=k2) (k3:=k3) (k5:=k5)
    PySem.F.excBase_ValueError (by decide +kernel) PySem.F.excBase_ValueError (mN:=mN) (T.hasType (by decide +kernel)) (I.ok.hd hcalm) (by rw [he]; rfl) hni (ld_glob I hg hm ⟨rfl,?_⟩ hdb)
  have ha':=ha cpos pins s σ H _ I h
  rw [he] at ha' ⊢
  refine Calls.evalArgs_plain (wpAny_mono ha' (fun us s1 ⟨vs,H1,I1,r,z,hE⟩=>?_) fun _ _ y=>y)
  refine ⟨rfl,by rw [<- r.length]; exact z,I1.bk _ _ hC,hN.keeps I1.bk,T.keeps I1.bk,fun h' e' hx=>?_⟩
  obtain ⟨t,oe,_,_⟩:=hx.there
  exact RO pins σ H1 H1 s1 s1 h' e' C t none I1 hx.new I1 (fun b o _ k=>hx.keeps b o k) (fun o k=>by rw [hx.new] at k; cases k) (I1.hok.none_of hx.new) oe hE
end
theorem raiseDok {P:Program} {w:World} {K:PySem.W.Frag} {mg:Str->Option Value} {base:Heap} {N:List Str} {qual:Str} {scope:Scope} {f:Addr} {cd:Value} {A:Around} {outer:List Env} {s:Shared} {H:Hp} {E:XK} :
    RaiseD (cxD P w K mg base N qual scope f cd A outer s H E) E:=fun pins σ H0 H1 s0 s1 hx e C t dv I0 g0 I hk he1 hH oe hE=>by
  refine raiseD I hk he1 ?_ hH oe hE
  cases q:s.heap.get? e with
  | none=>rfl
  | some o=>
    obtain ⟨o',z⟩:=I0.base.there e o q (fun z=>absurd (show e ∈ ([]:List Addr) from z) (by simp))
    rw [g0] at z; cases z
theorem Fun.okD {P:Program} {w:World} {K:PySem.W.Frag} {mg:Str->Option Value} {base:Heap} {x qual:Str} {st:Stmt} {f:Addr} {fd:FuncData} {N ps:List Str} {k:Nat} {sp:Sp} (F:Fun K x qual st f fd) (S:FnScope N ps (Q7 st)) (len:∀ vs H Q E,sp vs H Q E->vs.length=ps.length)
    (hbody:∀ (cdv:Value) (A:Around) (outer:List Env) (s:Shared) (H:Hp) (vs:List V) (Q:VK) (E:XK),Room k (A.deeper (envOfC qual (Q7 st) s.heap.objs.size f cdv))->sp vs H Q E ->
      ∃ t,PSs (cxD P w K mg base N qual (Q7 st) f cdv A outer s H E) (defBody st) t/\t { nx:=fun _ H'=>Q .non H',rt:=Q } (start N vs) H):FnOk P w K mg base (CXD P w) (k + 1) f fd ps sp:=by
  obtain ⟨oc,od,kV,doc,pm,an,cdv,ct,osl,rfl,lk,hcd⟩:=F.ex
  exact fn_of lk hcd S len fun A outer s H vs Q E hr hsp=>hbody cdv A outer s H vs Q E hr hsp
end L2
namespace L2
open PySem PySem.Spec PyProof.Rows PySem.W PySem.Builtin.Getset_descriptor
def IsXD (x C:Addr) (dv:Option Addr) (h:Heap):Prop:=∃ ox vs,h.get? x=some ox/\ox.cls=.ref C/\ox.dict=dv/\ox.data=.fields vs/\vs[2]?=some .none
theorem IsXD.x {x C:Addr} {dv:Option Addr} {h:Heap} (I:IsXD x C dv h):IsX x C h:=let ⟨ox,_,a,b,_⟩:=I; ⟨ox,a,b⟩
theorem extD_ok {P:Program} {w:World} {H:Hp} {h:Heap} {a C:Addr} {dv:Option Addr} (I:IsXD a C dv h):ObjOk P w H h a (.ext (IsXD a C dv)):=
  ⟨I,(let ⟨o,_,e,_⟩:=I; ⟨o,e⟩),fun h1 h2 ⟨o,vs,e,c⟩ k=>⟨o,vs,k o e,c⟩⟩
section
variable {prog:Program} {w:World} {A:Around} {E:Value->Shared->Prop} {h:Heap} {g:Array GenState} {d:Drawn} {t:Nat} {os:OsState} {K:Frag} {x C dx:Addr} {name:Str} {v:Value} {m:Str->Option Value}
end
section
variable {X:Cx}
end
section
variable {X:Cx} {pins:List (Addr × Obj)} {σ:St} {H H':Hp} {s s':Shared} {a C:Addr}
theorem handleD {cn n:Str} {i:Nat} {CC:Addr} {a0:Value} {B:Heap} {dv:Option Addr} {np hpos:Pos} {b₀:Stmt} {suite:List Stmt} {ts:TS} {D:Ends} (hN:X.N.Nodup) (hi:X.N[i]?=some n) (hk:X.env.scope.names.lookup n=some .local) (hex:∀ b,b ∉ X.ex)
    (hst:X.stack=X.env :: X.outer) (hfr:X.env.frame=some X.env.locals) (hg:Gl X cn) (hm:X.mg cn=some (.ref CC)) (hx:exmOne X.K (.ref C) (.ref CC)=some true) (I:Inv X pins σ H s) (F:Fly X.prog X.w X.stack H H' s s' a (.ref C) a0 B) (dd:∃ o',s'.heap.get? a=some o'/\o'.dict=dv/\fld2 o'=some .none)
    (hsuite:PSs (suiteCx X a) (b₀ :: suite) ts) (q:ts { nx:=fun σ2 H2=>D.nx (σ2.set i none) H2,rt:=fun _ _=>False } (σ.set i (some (.ref a))) (upd H' a (.ext (IsXD a C dv)))) (hdb:(cn == ("__debug__" : Str))=false:=by decide) :
    wpAny (model X.prog X.w) X.A (noteFrame (.ref a) X.env) (fun _ s₂=>wpAny (model X.prog X.w) X.A (setFlight (.ref a) none) (fun _ s₃=>wpAny (model X.prog X.w) X.A (handleBy (.ref a) X.env [.ExceptHandler (some (.Name cn np)) (some n) (b₀ :: suite) hpos]) (SP X pins D) X.xe s₃) X.xe s₂) X.xe s':=by
  have hcls:(X.env.scope.kind == .class || (X.env.scope.kind == .module && X.env.locals != X.env.globals))=false:=by rw [I.ok.kind]; rfl
  have fl0:=F.fl
  rw [hst] at fl0
  refine look_dict (by rw [<- hst]; exact I.ok.frames) hfr fl0 dd fun h4 held4 d4 sm4=>?_
  refine flight_dict (s:={ s' with heap:=h4 }) held4.1 held4.2.1 held4.2.2.1 held4.2.2.2 d4 fun h5 fl5 d5 sm5=>?_
  obtain ⟨n1,n2⟩:=F.new
  have I5:Inv X pins σ H' { s' with heap:=h5 }:=F.inv I fl5.1 (sm4.trans sm5)
  obtain ⟨ob,hob,hobc⟩:=fl5.there
  have LT:Looks (model X.prog X.w) h5 (typeOf (.ref a)) (.ref C):=IsX.type ⟨ob,hob,hobc⟩
  refine wpAny_handleBy_cons (codeAny_handlers_test (ld_glob (X:=suiteCx X a) (I5.suite a) hg hm ?_ hdb)) (by intro z; cases z)
  refine (exm_one (h:=h5) I5.kIn LT hx).at ?_
  refine codeAny_handlers_suite_as ?_
  refine flight_dict (s:={ s' with heap:=h5 }) fl5.1 fl5.2.1 fl5.2.2.1 fl5.2.2.2.at d5 fun h6 fl6 d6 sm6=>?_
  have I6:Inv X pins σ H' { s' with heap:=h6 }:=F.inv I fl6.1 ((sm4.trans sm5).trans sm6)
  obtain ⟨ob6,vs6,hob6,hobc6,hod6,_⟩:=fl6.first
  obtain ⟨o',ho',hd',hf'⟩:=d6
  rw [hob6] at ho'
  cases ho'
  have I7:Inv X pins σ (upd H' a (.ext (IsXD a C dv))) { s' with heap:=h6 }:=Inv.track I hex n1 I6 n2 (extD_ok ⟨ob6,vs6,hob6,hobc6,hd',hod6,by unfold fld2 at hf'; rw [hod6] at hf'; exact hf'⟩)
  refine store_ok (X:=suiteCx X a) (v:=.ref a) (I7.suite a) hN hi (.inl hk) rfl (fun s8 I8=>?_) (.inr hk)
  refine wpAny_mono (hsuite pins s8 _ _ _ I8 q) (fun f s9 h9=>?_) fun _ _ z=>z.elim
  cases f with
  | next=>
    obtain ⟨σ9,H9,I9,q9⟩:=h9
    have I9':=I9.unsuite I.ok
    obtain ⟨m,hn,hl⟩:=id I9'.loc
    exact wpAny_nameGoes_keeps hk hn hcls fun h10 v hn' hs'=>⟨_,_,I9'.forget hN hi hl hn' hs',q9⟩
  | brk=>obtain ⟨_,_,_,z⟩:=h9; exact z.elim
  | cont=>obtain ⟨_,_,_,z⟩:=h9; exact z.elim
  | ret u=>obtain ⟨_,_,_,_,_,z⟩:=h9; exact z.elim
end
end L2
namespace L2
open PySem PySem.Spec PyProof.Rows
section
variable {X:Cx}
theorem call_xG {CX:CXT} {f:Addr} {fd:FuncData} {k:Nat} {ps:List Str} {sp:Sp} {g:Str} {p cpos:Pos} {e:Expr} {es:List Expr} {ta:TA} {pins:List (Addr × Obj)} {σ:St} {H:Hp} {s:Shared} {E1:Value->Shared->Prop} {Qv:VK} {Ex:XK}
    (F:FnOk X.prog X.w X.K X.mg X.base CX k f fd ps sp) (hr:Room k X.A) (hm:X.mg g=some (.ref f)) (hkp:PySem.W.keepIn X.K (.ref f)=true) (hb:Binds X.K fd ps []) (ha:PA X.nox (e :: es) ta) (hg:Gl X g)
    (I:Inv X pins σ H s) (h:ta σ H fun vs H1=>sp vs H1 Qv Ex) (hE:∀ H1 s1 v s',Inv X pins σ H1 s1->CX X.stack H1 s1 Ex v s'->E1 v s')
    (hdb:(g == ("__debug__" : Str))=false) (he:starEach (e :: es) X.env=(false,eval e X.env) :: starEach es X.env) (hpl:(backTo cpos (starEach es X.env)).any (·.1)=false) :
    wpAny (model X.prog X.w) X.A (eval (.Call (.Name g p) (e :: es) [] cpos) X.env) (EP X pins σ Qv) E1 s:=by
  refine wpAny_Call_Name_kw (ld_glob I hg hm ?_ hdb)
  refine PySem.W.callWith_K (h₀:=X.base) I.ok.mod.kin hkp (wpAny_mono (ha cpos pins s σ H _ (I.wish _) h) (fun us s1 ⟨vs,H1,I1,r,q⟩=>⟨I1.unwish.kIn,?_⟩) fun _ _ z=>z.elim) he hpl
  have I1':=I1.unwish
  have hl:us.length=ps.length:=by rw [<- r.length]; exact F.len _ _ _ _ q
  have hb':=hb s1 us I1'.kIn (by rw [List.append_nil]; exact hl)
  rw [List.append_nil] at hb'
  refine wpAny_call (codeAny_mono (F.run X.A X.stack s1 H1 ⟨us,[]⟩ us vs Qv Ex hr I1'.env0 hb' r q) fun rr s' hq=>?_)
  cases rr with
  | error v=>exact hE H1 s1 v s' I1' hq
  | ok fl=>
    cases fl with
    | ret u=>exact I1'.after hq
    | next=>exact False.elim hq
    | brk=>exact False.elim hq
    | cont=>exact False.elim hq
end
section
variable {X:Cx}
theorem call_isxD (K:PySem.W.Frag) (hK:X.K=K:=by rfl):CallR X (.builtin "isinstance") (fun xs H Q=>∃ (a C:Addr) (dv:Option Addr) (c:V) (cv:Value) (b:Bool),xs=[.ref a,c]/\clsV c=some cv/\H a=some (.ext (IsXD a C dv))/\XCls K C/\PySem.W.kitOne K (.ref C) cv=some b/\Q (.bl b) H):=by
  subst hK
  intro pins s σ H xs us Q I r h
  obtain ⟨a,C,dv,c,cv,b,rfl,hc,ha,F,e,q⟩:=h
  obtain ⟨u,w',rfl,r1,r2⟩:=vals2 r
  cases r1
  rw [clsV_rel hc r2]
  exact PySem.W.kia_one (kitx_exc F) I.kIn (I.hok a _ ha).1.x e (fun z=>nomatch z) fun tk=>⟨.bl b,H,I.tok tk,rfl,q⟩
end
end L2
namespace L2
open PySem PySem.Spec PyProof.Rows
section
variable {X:Cx}
end
end L2
namespace L2
open PySem PySem.Spec PyProof.Rows PySem.W PySem.Builtin.Getset_descriptor
section
variable {X:Cx} {pins:List (Addr × Obj)} {σ:St} {H H':Hp} {s s':Shared} {a C:Addr}
end
section
variable {X:Cx}
end
end L2
namespace L2
open PySem PySem.Spec PyProof.Rows PySem.SeqAt
section
variable {prog:Program} {w:World} {A:Around} {E:Value->Shared->Prop} {s:Shared}
end
section
variable {X:Cx}
theorem countB {bs:List Bool} {its:List Value} (r:Vals (bs.map V.bl) its):its.countP (isBoolOf true)=bs.countP id:=by
  induction bs generalizing its with
  | nil=>cases r; rfl
  | cons b bs ih=>
    cases r with
    | cons a r=>
      cases a
      rw [List.countP_cons,List.countP_cons,ih r]
      cases b <;> rfl
theorem eqB {bs:List Bool} {its:List Value} (r:Vals (bs.map V.bl) its):∀ y,y ∈ its->∀ (A:Around) (s:Shared),EqAt A s y (.bool true) (isBoolOf true y):=by
  induction bs generalizing its with
  | nil=>cases r; intro y hy; exact absurd hy (by simp)
  | cons b bs ih=>
    cases r with
    | cons a r=>
      cases a
      intro y hy A s
      rcases List.mem_cons.mp hy with e4 | hy
      · rw [e4]; exact EqAt.bool_bool b true
      · exact ih r y hy A s
def rCountB:V->List V->Hp->VK->Prop:=fun x vs H Q=>∃ (l:Addr) (bs:List Bool),x=.ref l/\vs=[.bl true]/\H l=some (.lst (bs.map V.bl))/\Q (.int (bs.countP id:Nat)) H
theorem mt_countB:MtR X "list.count" rCountB:=by
  intro pins s σ H x vs v us Q I rx rv h
  obtain ⟨l,bs,rfl,rfl,hH,q⟩:=h
  cases rx
  obtain ⟨u,rfl,ru⟩:=rv.one
  obtain rfl:u=Value.bool true:=ru
  obtain ⟨z,its,n,r,hl,e⟩:=I.lstM hH
  refine call_meets PySem.F.slot_list_count ⟨_,e,rfl⟩ PySem.F.entry_list_count (PySem.F.args_list_count_2 _ _) (list_countAt l its.toArray n none #[] (.bool true) (isBoolOf true)) ⟨e,fun y hy=>eqB r y (by simpa using hy) _ _,?_⟩
  rw [show its.toArray.toList=its from rfl,countB r]
  exact ⟨.int _,H,I.tok _,⟨_,rfl⟩,q⟩
def rIndexB:V->List V->Hp->VK->Prop:=fun x vs H Q=>∃ (l:Addr) (bs:List Bool) (j:Nat),x=.ref l/\vs=[.bl true]/\H l=some (.lst (bs.map V.bl))/\bs.length<=1000/\bs[j]?=some true/\(∀ m,m < j->bs[m]?=some false)/\Q (.int (j:Nat)) H
theorem mt_indexB:MtR X "list.index" rIndexB:=by
  intro pins s σ H x vs v us Q I rx rv h
  obtain ⟨l,bs,j,rfl,rfl,hH,hz,hj,hno,q⟩:=h
  cases rx
  obtain ⟨u,rfl,ru⟩:=rv.one
  obtain rfl:u=Value.bool true:=ru
  obtain ⟨z,its,n,r,hl,e⟩:=I.lstM hH
  rw [List.length_map] at hl
  have lj:j < bs.length:=(List.getElem?_eq_some_iff.mp hj).1
  have at':∀ m (hm:m < its.toArray.size) b,bs[m]?=some b->its.toArray[m]=Value.bool b:=fun m hm b hb=>by
    obtain ⟨u,hu,ru⟩:=r.get (show (bs.map V.bl)[m]?=some (V.bl b) by rw [List.getElem?_map,hb]; rfl)
    obtain rfl:u=Value.bool b:=ru
    have:its.toArray[m]?=some (Value.bool b):=by simpa using hu
    exact (Array.getElem?_eq_some_iff.mp this).2
  refine call_meets PySem.F.slot_list_index ⟨_,e,rfl⟩ PySem.F.entry_list_index (PySem.F.args_list_index_2 _ _)
    (list_indexAt l its.toArray n none #[] (.bool true) (isBoolOf true) j (by rw [List.size_toArray,<- hl]; exact lj) (by omega) ?_ ?_) ⟨e,fun y hy=>eqB r y (by simpa using hy) _ _,⟨.int _,H,I.tok _,⟨_,rfl⟩,q⟩⟩
  · rw [at' j _ true hj]; rfl
  · intro m hm hlt
    rw [at' m hm false (hno m hlt)]; rfl
def tTryDa (sp:Sp) (ta:TA) (i:Nat) (ok:Value->Addr->Prop) (ts:Addr->TS) (set:V->St->St):TS:=fun D σ H=>ta σ H fun vs H1=>sp vs H1 (fun v H2=>D.nx (set v σ) H2)
  (fun c dv H2=>∃ C,c=.ref C/\ok c C/\∀ a,H2 a=none->ts a { nx:=fun σ3 H3=>D.nx (σ3.set i none) H3,rt:=fun _ _=>False } (σ.set i (some (.ref a))) (upd H2 a (.ext (IsXD a C dv))))
theorem ps_tryEDa {f:Addr} {fd:FuncData} {k:Nat} {ps:List Str} {sp:Sp} {g cn n:Str} {i:Nat} {CC:Addr} {p cpos epos np hpos pos:Pos} {e:Expr} {es:List Expr} {ta:TA} {b₀:Stmt} {suite:List Stmt} {ts:Addr->TS}
    (F:FnOk X.prog X.w X.K X.mg X.base (CXD X.prog X.w) k f fd ps sp) (hr:Room k X.A) (hm:X.mg g=some (.ref f)) (hkp:PySem.W.keepIn X.K (.ref f)=true) (hb:Binds X.K fd ps []) (ha:PA X.nox (e :: es) ta)
    (hN:X.N.Nodup) (hi:X.N[i]?=some n) (hk:X.env.scope.names.lookup n=some .local) (hsuite:∀ a,PSs (suiteCx X a) (b₀ :: suite) (ts a)) (hcm:X.mg cn=some (.ref CC))
    (hg:Gl X g:=by rfl) (hgc:Gl X cn:=by rfl) (hex:∀ b,b ∉ X.ex:=by intro b z; exact absurd (show b ∈ ([]:List Addr) from z) (by simp)) (hst:X.stack=X.env :: X.outer:=by rfl) (hfr:X.env.frame=some X.env.locals:=by rfl)
    (hdb:(g == ("__debug__" : Str))=false:=by decide) (hdbc:(cn == ("__debug__" : Str))=false:=by decide) (he:starEach (e :: es) X.env=(false,eval e X.env) :: starEach es X.env:=by rfl) (hpl:(backTo cpos (starEach es X.env)).any (·.1)=false:=by rfl)
    (hsw:swapsWith (.Call (.Name g p) (e :: es) [] cpos) none epos.line X.env=pure false:=by rfl) :
    PS X (.Try [.Expr (.Call (.Name g p) (e :: es) [] cpos) epos] [.ExceptHandler (some (.Name cn np)) (some n) (b₀ :: suite) hpos] [] [] pos) (tTryDa sp ta i (fun c _=>PySem.W.exmOne X.K c (.ref CC)=some true) ts (fun _ σ=>σ)):=by
  intro pins s σ H D I h
  refine wpAny_Try_except (wpAny_execs_cons (wpAny_Expr_any (thn (call_xG F hr hm hkp hb ha hg I h ?_ hdb he hpl) fun v s1 ⟨x,H1,I1,r1,q1⟩=>wpAny_execs_nil (wpAny_execs_nil ⟨σ,H1,I1,q1⟩)) I.quiet hsw))
  intro H1 s1 v s' I1 hx
  obtain ⟨a,cls,a0,dv,H',B,rfl,Fl,dd,C,rfl,hok,q⟩:=hx
  exact handleD hN hi hk hex hst hfr hgc hcm hok I1 Fl dd (hsuite a) (q a Fl.new.2) hdbc
end
end L2
namespace L2
open PySem PySem.Spec PyProof.Rows PySem.SeqAt
section
variable {X:Cx}
end
end L2
namespace L2
open PySem PySem.Spec PyProof.Rows
section
variable {X:Cx}
def rCatT0 (K:PySem.W.Frag):R2:=fun x y H Q=>∃ a b ys,x=.ref a/\y=.ref b/\SqT K H a []/\SqT K H b ys/\Q (.ref b) H
theorem op_catT0:OpR X (binaryOp .Add) (rCatT0 X.K):=by
  intro pins s σ H x y v u Q I rx ry h
  obtain ⟨a,b,ys,rfl,rfl,ha,hb,q⟩:=h
  cases rx
  cases ry
  obtain ⟨its,r1,p1,_⟩:=I.tuple ha
  obtain ⟨its2,r2,p2,_⟩:=I.tuple hb
  have e1:its=[]:=r1.nil_iff.mpr rfl
  subst e1
  obtain ⟨⟨cls,dd,data,sl⟩,ho,hc,n,hd⟩:=id p1
  obtain ⟨⟨cls2,dd2,data2,sl2⟩,ho2,hc2,n2,hd2⟩:=id p2
  simp only at hc hd hc2 hd2
  subst hc hd hc2 hd2
  exact concat_meets ⟨_,ho,rfl⟩ ⟨_,ho2,rfl⟩ noFill_tuple_add seq_tuple_add PySem.F.slot_tuple_add PySem.F.entry_tuple_add (PySem.F.args_tuple_add_2 _ _)
    (tuple_addW0 a b ([]:List Value).toArray its2.toArray n n2 dd dd2 sl sl2 (by simp)) ⟨ho,ho2,⟨.ref b,H,I,rfl,q⟩⟩
abbrev rCat2 (K:PySem.W.Frag):R2:=fun x y H Q=>rCatT K x y H Q\/rCatT0 K x y H Q
theorem op_cat2:OpR X (binaryOp .Add) (rCat2 X.K):=op_catT.or op_catT0
end
end L2
namespace L2
open PySem PySem.Spec PyProof.Rows
def PTs (X:Cx) (ifs:List Expr) (t:TT):Prop:=
  ∀ (pins:List (Addr × Obj)) (s:Shared) (σ:St) (H:Hp) (Q:Bool->Hp->Prop),Inv X pins σ H s->t σ H Q ->
    wpAny (model X.prog X.w) X.A (forIn ifs true fun c r=>if r=true then do let ok <- isTrue c X.env (eval c X.env); pure (ForInStep.yield ok) else pure (ForInStep.yield r)) (TP X pins σ Q) X.xe s
def tTrue:TT:=fun _ H Q=>Q true H
theorem pts_nil {X:Cx}:PTs X [] tTrue:=fun _ _ _ H _ I h=>wpAny_tests_nil ⟨H,I,h⟩
theorem pts_one {X:Cx} {c:Expr} {t:TT} (h:PT X c t):PTs X [c] t:=fun pins s σ H Q I q=>wpAny_tests_one (h pins s σ H Q I q)
def compBodyT (J:It) (cap:List (Option Nat)) (g:TG) (tt:TT) (te:TE) (σ:St) (H1:Hp) (Q:VK):Prop:=∀ acc,H1 acc=none ->
  ∃ W:Nat->Nat->List V->St->Hp->Prop,(∃ m,W 0 m [] (capOf cap σ) (upd H1 acc (.lst [])))/\∀ i m ys σ' H',W i m ys σ' H'->H' acc=some (.lst ys) /\
    ((J.stop i H'/\Q (.ref acc) H')\/(J.go i H'/\ys.length < sizeLine/\∀ x H2,J.yld i H' x H2->g x σ' H2 fun σ3 H3=>tt σ3 H3 fun b H4=>
      if b=true then te σ3 H4 fun y H5=>H5 acc=some (.lst ys)/\∃ m',m' < m/\W (i + 1) m' (ys ++ [y]) σ3 (upd H5 acc (.lst (ys ++ [y])))
      else ∃ m',m' < m/\W (i + 1) m' ys σ3 H4))
def tCompT (cap:List (Option Nat)) (wi:TI) (g:TG) (tt:TT) (te:TE):TE:=fun σ H Q=>wi σ H fun J H1=>compBodyT J cap g tt te σ H1 Q
section
variable {prog:Program} {w:World} {A:Around} {R:Result->Shared->Prop} {s:Shared}
theorem compLoop_anyT {elt target iter:Expr} {ifs:List Expr} {scope:Scope} {pos:Pos} {it acc:Value} {env:Env} (I:Nat->Shared->Prop)
    (turn:∀ n s,I n s->wpAny (model prog w) A (pyNext it) (fun r s₁=>match r with
      | none=>R (.ok .next) s₁
      | some v=>wpAny (model prog w) A (letOwnedTupleGo target it v) (fun _ s₁'=>wpAny (model prog w) A (assign target env v) (fun _ s₂=>
          wpAny (model prog w) A (forIn ifs true fun c r=>if r=true then do let ok <- isTrue c env (eval c env); pure (ForInStep.yield ok) else pure (ForInStep.yield r)) (fun ok s₃=>
            if ok=true then wpAny (model prog w) A (eval elt env) (fun x s₄=>
              wpAny (model prog w) A (call (.builtin "list.append") [acc,x]) (fun _ s₅=>∃ m,m < n/\I m s₅) (fun _ _=>False) s₄) (fun _ _=>False) s₃
            else ∃ m,m < n/\I m s₃) (fun _ _=>False) s₂)
          (fun _ _=>False) s₁') (fun _ _=>False) s₁) (fun _ _=>False) s)
    (n:Nat) (h:I n s):codeAny (model prog w) A (.compLoop (.ListComp elt [⟨target,iter,ifs,0⟩] scope pos) 0 it acc env) R s:=by
  refine codeAny_loop rfl I (fun n s hI=>?_) n h
  show wpAny _ A ((compTurn (.ListComp elt [⟨target,iter,ifs,0⟩] scope pos) 0 it acc env).onRaise (fun x=>do noteFrame x env; theTreesLotGoes x)) _ _ s
  refine wpAny_noted ?_
  rw [compTurn_list]
  refine wpAny_bind (wpAny_standAt (wpAny_bind (wpAny_mono (turn n s hI) (fun r s₁ h₁=>?_) fun _ _ h'=>h'.elim)))
  cases r with
  | none=>exact wpAny_pure h₁
  | some v=>
    refine wpAny_bind (wpAny_mono h₁ (fun _ s₁' h₁'=>?_) fun _ _ h'=>h'.elim)
    refine wpAny_bind (wpAny_mono h₁' (fun _ s₂ h₂=>wpAny_bind (wpAny_mono h₂ (fun ok s₃ h₃=>?_) fun _ _ h'=>h'.elim)) fun _ _ h'=>h'.elim)
    cases ok with
    | true=>
      rw [if_pos rfl] at h₃
      exact wpAny_bind (wpAny_bind (wpAny_mono h₃ (fun x s₄ h₄=>wpAny_bind (wpAny_mono h₄ (fun _ s₅ h₅=>wpAny_pure (wpAny_pure ⟨rfl,h₅⟩)) fun _ _ h'=>h'.elim)) fun _ _ h'=>h'.elim))
    | false=>
      rw [if_neg Bool.false_ne_true] at h₃
      exact wpAny_bind (wpAny_pure (wpAny_pure ⟨rfl,h₃⟩))
end
section
variable {X:Cx}
theorem comp_coreT {elt tg iter:Expr} {ifs:List Expr} {tt:TT} {pos:Pos} {N N':List Str} {sc scE:Scope} {cap:List (Option Nat)} {wi:TI} {g:TG} {te:TE} {use:Option (Value->Sem Unit)} {QQ:Value->Shared->Prop} (hcalm:X.calm=true) (hi:PI X tg iter wi)
    (hg:∀ cl C s0 H0 ex,PG (blkC X N' sc cl C s0 H0 ex) tg g) (he:∀ cl C s0 H0 ex,PE (blkC X N' sc cl C s0 H0 ex) elt te) (htt:∀ cl C s0 H0 ex,PTs (blkC X N' sc cl C s0 H0 ex) ifs tt)
    (hN:X.N=N) (hE:X.env.scope=scE) (hc:compOkC N N' sc scE cap=true) (hs:∀ x,foldedSetIterable iter X.env x=pure x)
    {pins:List (Addr × Obj)} {s:Shared} {σ:St} {H:Hp} {Q:VK} (I:Inv X pins σ H s) (h:tCompT cap wi g tt te σ H Q)
    (fin:∀ acc C H' s' m,Inv X pins σ H' s'->s'.heap.Ns C m->FpOk X pins H' C->Q (.ref acc) H'->compPost (model X.prog X.w) X.A X.xe use QQ (.ref acc) C (.ok .next) s') {pos':Pos} :
    wpAny (model X.prog X.w) X.A (comprehension (.ListComp elt [⟨tg,iter,ifs,0⟩] sc pos) sc X.env pos' (newList []) false (eval iter X.env) use) QQ X.xe s:=by
  have ck:=compOkC.of hc
  obtain ⟨cl,hcl,c1,c2⟩:=closure_of (scope:=sc) (env:=X.env) fun x hx hf=>I.ok.has x.1 (by
    have:=ck.fre x hx hf
    rw [<- hE] at this
    exact this)
  refine wpAny_comprehension_free (use:=use) rfl hs hcl ck.kind ck.loc (thn (hi pins s σ H _ I h) fun v s1 h1=>thn h1 fun itv s2 h2=>?_)
  obtain ⟨it,fp,tn,J,H2,e,I2,T,st2,f2,hw⟩:=h2
  subst e
  have fsz:∀ b ∈ fp,b < s2.heap.objs.size:=fun b hb=>by
    obtain ⟨o,e,_⟩:=T.obj _ _ st2 b hb
    exact Heap.lt_size e
  obtain ⟨W,⟨m0,w0⟩,turn⟩:=hw s2.heap.objs.size I2.fresh
  refine wpAny_newObj_type (wpAny_newEnvC ?_)
  dsimp only
  have I3:Inv X pins σ (upd H2 s2.heap.objs.size (.lst [])) { s2 with heap:=s2.heap.push { cls:=.type "list",data:=.seq ([]:List Value).toArray } }:=
    I2.lnew (its:=[]) (ys:=[]) (t':=s2.toks) .nil (Nat.zero_le _)
  generalize hs3:({ s2 with heap:=s2.heap.push { cls:=.type "list",data:=.seq ([]:List Value).toArray } }:Shared)=s3 at I3
  have hh3:s3.heap=s2.heap.push { cls:=.type "list",data:=.seq ([]:List Value).toArray }:=by rw [<- hs3]
  have hsz:s3.heap.objs.size=s2.heap.objs.size + 1:=by rw [hh3,Heap.size_push]
  have f3:∀ b ∈ fp,FpOk X pins (upd H2 s2.heap.objs.size (.lst [])) b:=fun b hb=>by
    obtain ⟨g0,g1⟩:=f2 b hb
    exact ⟨by rw [Qb (Nat.ne_of_lt (fsz b hb))]; exact g0,g1⟩
  have k3:∀ b o,s2.heap.get? b=some o->s3.heap.get? b=some o:=fun b o e=>by rw [hh3]; exact Heap.get?_push_of_some _ e
  obtain ⟨cl',hcl'⟩:∃ cl',cellsFrom (s3.heap.objs.size + 1) sc.names cl=cl':=⟨_,rfl⟩
  obtain ⟨h₁,hh₁⟩:∃ h₁,pushCells (s3.heap.push { cls:=.type "dict",data:=.dict #[] }) sc.names=h₁:=⟨_,rfl⟩
  have k1:∀ b o,s3.heap.get? b=some o->h₁.get? b=some o:=fun b o e=>by rw [<- hh₁]; exact pushCells_keeps _ _ b o (Heap.get?_push_of_some _ e)
  have c1':∀ x c,cl'.lookup x=some c->cl.lookup x=some c\/s3.heap.objs.size + 1<=c:=fun x c e=>by
    rw [<- hcl'] at e
    have:=cellsFrom_look (sc.names) (s3.heap.push { cls:=.type "dict",data:=.dict #[] }) cl x c (by rw [Heap.size_push]; exact e)
    rcases this with z | ⟨_,z,_⟩
    · exact .inl z
    · rw [Heap.size_push] at z; exact .inr z
  have I4:Inv (blkC X N' sc cl' s3.heap.objs.size s3 (upd H2 s2.heap.objs.size (.lst [])) fp) [] (capOf cap σ) (upd H2 s2.heap.objs.size (.lst [])) { s3 with heap:=h₁ }:=by
    rw [<- hcl',<- hh₁]
    exact blk_invC I3 hN hE ck c1 c2 f3 (fun b hb=>Nat.lt_of_lt_of_le (fsz b hb) (by rw [hsz]; exact Nat.le_succ _))
  have st4:tn 0 h₁:=T.keep _ _ _ st2 fun b hb o e=>k1 b o (k3 b o e)
  generalize hX':blkC X N' sc cl' s3.heap.objs.size s3 (upd H2 s2.heap.objs.size (.lst [])) fp=X' at I4
  have hxe:X'.xe=fun _ _=>False:=by rw [<- hX']; rfl
  have hprog:X'.prog=X.prog:=by rw [<- hX']; rfl
  have hww:X'.w=X.w:=by rw [<- hX']; rfl
  have hKK:X'.K=X.K:=by rw [<- hX']; rfl
  have hAA:X'.A=X.A:=by rw [<- hX']; rfl
  have hcc:X'.calm=true:=by rw [<- hX']; exact hcalm
  have henv:X'.env=compEnvC sc cl' s3.heap.objs.size X.env:=by rw [<- hX']; rfl
  have hloc:X'.env.locals=s3.heap.objs.size:=by rw [henv]; rfl
  have hg':PG X' tg g:=by rw [<- hX']; exact hg _ _ _ _ _
  have he':PE X' elt te:=by rw [<- hX']; exact he _ _ _ _ _
  have htt':PTs X' ifs tt:=by rw [<- hX']; exact htt _ _ _ _ _
  have stat:∀ {H':Hp},(∀ b ∈ fp,H' b=none)->∀ b ∈ fp,FpOk X' [] H' b:=fun {H'} hn b hb=>by
    obtain ⟨_,g1,g2,g3,g4,g5⟩:=f3 b hb
    refine ⟨hn b hb,by rw [hloc,hsz]; exact Nat.ne_of_lt (Nat.lt_succ_of_lt (fsz b hb)),?_,?_,?_,fun p hp=>?_⟩
    · rw [<- hX']
      intro z
      rcases List.mem_cons.mp (I3.stkSub b z) with e | z
      · exact g1 e
      · exact g2 z
    · left
      rw [<- hX']
      exact hb
    · intro x c e
      rw [henv] at e
      rcases c1' x c e with z | z
      · exact g4 x c (c1 x c z)
      · exact fun q=>absurd (Nat.lt_of_lt_of_le (fsz b hb) (Nat.le_trans (Nat.le_trans (Nat.le_succ _) (hsz ▸ Nat.le_succ _)) (q ▸ z))) (Nat.lt_irrefl _)
    · rw [<- hX'] at hp
      cases hp
  have fin':∀ {σ':St} {H':Hp} {s':Shared},Inv X' [] σ' H' s'->Q (.ref s2.heap.objs.size) H'->compPost (model X.prog X.w) X.A X.xe use QQ (.ref s2.heap.objs.size) s3.heap.objs.size (.ok .next) s':=fun {σ' H' s'} J q=>by
    obtain ⟨mm,hmm,_⟩:=J.loc
    rw [hloc] at hmm
    have hfree:H' s3.heap.objs.size=none:=by have:=J.free; rw [hloc] at this; exact this
    have hok:=J.hok
    rw [hprog,hww] at hok
    have u1:Un (frs X.stack) fp (upd H2 s2.heap.objs.size (.lst [])) H' s3.heap s'.heap:=by
      have:=J.base
      rw [<- hX'] at this
      exact this
    have hos:s'.os=s3.os:=by have:=J.os; rw [<- hX'] at this; exact this
    refine fin _ _ H' s' mm (I3.call' (s':=s') hos u1 hok J.bare fun b hb=>?_) hmm (I3.fpOk (Nat.le_refl _) hfree) q
    obtain ⟨_,g1,g2,g3,g4,g5⟩:=f3 b hb
    exact ⟨g3,g1,g4,g5⟩
  have loop:codeAny (model X.prog X.w) X.A (.compLoop (.ListComp elt [⟨tg,iter,ifs,0⟩] sc pos) 0 (.ref it) (.ref s2.heap.objs.size) X'.env)
      (compPost (model X.prog X.w) X.A X.xe use QQ (.ref s2.heap.objs.size) s3.heap.objs.size) { s3 with heap:=h₁ }:=by
    refine compLoop_anyT (fun n s'=>∃ i ys σ' H',Inv X' [] σ' H' s'/\tn i s'.heap/\(∀ b ∈ fp,H' b=none)/\W i n ys σ' H') ?_ m0 ⟨0,[],_,_,I4,st4,fun b hb=>(f3 b hb).1,w0⟩
    rintro n s5 ⟨i,ys,σ5,H5,I5,st5,fr5,w5⟩
    obtain ⟨hacc,q⟩:=turn i n ys σ5 H5 w5
    rcases q with ⟨stop,q⟩ | ⟨go,hlen,step⟩
    · refine thn (hAA ▸ T.done X' hprog hww hKK hcc i [] s5 σ5 H5 _ I5 (stat fr5) st5 stop) fun r s6 ⟨hr,I6⟩=>?_
      subst hr
      exact fin' I6 q
    · refine thn (hAA ▸ T.item X' hprog hww hKK hcc i [] s5 σ5 H5 _ I5 (stat fr5) st5 go) fun r s6 ⟨u,hr,h6⟩=>?_
      subst hr
      refine thn h6 fun _ s7 ⟨x,H7,I7,r7,y7,st7,fr7⟩=>?_
      have I7':=I7.pinned (stat fr7) (T.obj _ _ st7)
      have g7:=hg' _ s7 σ5 H7 x u _ I7' r7 (step x H7 y7)
      rw [hprog,hww,hAA,hxe] at g7
      refine thn g7 fun _ s8 ⟨σ8,H8,I8,q8⟩=>?_
      have t8:=htt' _ s8 σ8 H8 _ I8 q8
      rw [hprog,hww,hAA,hxe] at t8
      refine thn t8 fun okb s8t ⟨H8t,I8t,q8t⟩=>?_
      cases okb with
      | false=>
        rw [if_neg Bool.false_ne_true] at q8t ⊢
        obtain ⟨m',hm',w9⟩:=q8t
        refine ⟨m',hm',i + 1,_,σ8,_,I8t.unpinned,T.keep _ _ _ st7 fun b hb o eo=>(I8t.pin (b,o) (List.mem_append_right _ (List.mem_append_right _ (mem_pinsAt hb eo)))).1,fun b hb=>?_,w9⟩
        obtain ⟨o,eo,d⟩:=T.obj _ _ st7 b hb
        exact (I8t.pin (b,o) (List.mem_append_right _ (List.mem_append_right _ (mem_pinsAt hb eo)))).2.1
      | true=>
      rw [if_pos rfl] at q8t ⊢
      have g8:=he' _ s8t σ8 H8t _ I8t q8t
      rw [hprog,hww,hAA,hxe] at g8
      refine thn g8 fun y s9 ⟨yv,H9,I9,r9,a9,m',hm',w9⟩=>?_
      obtain ⟨z,its,nn,rr,hl,e⟩:=I9.lstM a9
      refine call_meets F.slot_list_append ⟨_,e,rfl⟩ F.entry_list_append (F.args_list_append_2 _ _) (PySem.list_append _ its.toArray nn y (by rw [List.size_toArray]; omega)) ⟨e,?_⟩
      have I10:Inv X' ([] ++ pinsAt fp s7.heap) σ8 (upd H9 s2.heap.objs.size (.lst (ys ++ [yv]))) { s9 with heap:=s9.heap.update s2.heap.objs.size (Obj.mapSeq fun a=>a.push y) }:=
        I9.lset (t':=s9.toks) (its':=its ++ [y]) a9 e (by simp) (rr.append (.cons r9 .nil)) (by rw [List.length_append,List.length_singleton]; omega)
      refine ⟨m',hm',i + 1,_,σ8,_,I10.unpinned,T.keep _ _ _ st7 fun b hb o eo=>(I10.pin (b,o) (List.mem_append_right _ (List.mem_append_right _ (mem_pinsAt hb eo)))).1,fun b hb=>?_,w9⟩
      obtain ⟨o,eo,d⟩:=T.obj _ _ st7 b hb
      exact (I10.pin (b,o) (List.mem_append_right _ (List.mem_append_right _ (mem_pinsAt hb eo)))).2.1
  rw [henv] at loop
  have goal:=codeAny_compStart_list (rest:=[]) (ifs:=ifs) loop (T.self X.A 0 _ _ _ st4 loop)
  subst hs3
  rw [<- hcl',<- hh₁] at goal
  exact goal
theorem pe_compT {elt tg iter:Expr} {ifs:List Expr} {tt:TT} {pos:Pos} {N N':List Str} {sc scE:Scope} {cap:List (Option Nat)} {wi:TI} {g:TG} {te:TE} (hcalm:X.calm=true) (hi:PI X tg iter wi)
    (hg:∀ cl C s0 H0 ex,PG (blkC X N' sc cl C s0 H0 ex) tg g) (he:∀ cl C s0 H0 ex,PE (blkC X N' sc cl C s0 H0 ex) elt te) (htt:∀ cl C s0 H0 ex,PTs (blkC X N' sc cl C s0 H0 ex) ifs tt)
    (hN:X.N=N:=by rfl) (hE:X.env.scope=scE:=by rfl) (hc:compOkC N N' sc scE cap=true:=by decide +kernel) (hs:∀ x,foldedSetIterable iter X.env x=pure x:=by intro _; rfl) :
    PE X (.ListComp elt [⟨tg,iter,ifs,0⟩] sc pos) (tCompT cap wi g tt te):=by
  intro pins s σ H Q I h
  rw [eval_ListComp]
  refine comp_coreT (use:=none) hcalm hi hg he htt hN hE hc hs I h fun acc C H' s' m I' hm hf q=>⟨m,hm,fun h' hs'=>?_⟩
  obtain ⟨f0,f1,f2,f3,f4,f5⟩:=hf
  exact ⟨.ref acc,H',I'.turned (t':=s'.toks) (fun b o hb e=>(hs'.2 b hb).trans e) f0 f1 f3 f4 f5,rfl,q⟩
end
end L2
namespace L2
open PySem PySem.Spec PyProof.Rows
theorem fm_congr {α β:Type} {f g:α->Option β}:∀ {l:List α},(∀ x ∈ l,f x=g x)->l.filterMap f=l.filterMap g
  | [],_=>rfl
  | x :: l,h=>by
    rw [List.filterMap_cons,List.filterMap_cons,h x List.mem_cons_self,fm_congr fun y hy=>h y (List.mem_cons_of_mem _ hy)]
theorem pick_down (its:List Value):∀ k,k<=its.length->((List.range k).filterMap fun (m:Nat)=>its[its.length - 1 - m]?)=(its.reverse.take k)
  | 0,_=>by simp
  | k + 1,h=>by
    have ih:=pick_down its k (by omega)
    rw [List.range_succ,List.filterMap_append,ih]
    have e:its[its.length - 1 - k]?=some its[its.length - 1 - k]:=List.getElem?_eq_getElem (by omega)
    rw [List.take_add_one]
    congr 1
    rw [List.getElem?_reverse (by omega),e]
    simp [e]
section
variable {X:Cx} {e e3:Expr} {te t3:TE} {pos p2:Pos}
end
end L2
namespace L2
open PySem PySem.Spec PyProof.Rows
theorem vals_range {its:List Value} {n:Nat} (hl:its.length=n) (h:∀ (j:Nat) (v:Value),its[j]?=some v->∃ t,v=Value.int (j:Int) t):Vals ((List.range n).map fun (k:Nat)=>V.int (k:Int)) its:=by
  induction n generalizing its with
  | zero=>
    have:its=[]:=List.eq_nil_of_length_eq_zero hl
    subst this
    exact .nil
  | succ n ih=>
    rcases List.eq_nil_or_concat its with rfl | ⟨pre,v,rfl⟩
    · simp at hl
    · rw [List.concat_eq_append] at hl h ⊢
      have hp:pre.length=n:=by simp at hl; exact hl
      rw [List.range_succ,List.map_append]
      refine (ih hp fun j u hu=>h j u ?_).append ?_
      · rw [List.getElem?_append_left (List.getElem?_eq_some_iff.mp hu).1]; exact hu
      · obtain ⟨t,rfl⟩:=h n v (by rw [List.getElem?_append_right (by omega),hp]; simp)
        exact .cons ⟨t,rfl⟩ .nil
section
variable {X:Cx} {a:Expr} {ta:TA} {p p' pos pos':Pos}
end
end L2
namespace L2
open PySem PySem.Spec PyProof.Rows
def metN (ns:List Int):List Int:=firstMet (fun i=>ns.getD i 0) ns.length
section
variable {X:Cx}
end
end L2
namespace L2
open PySem PySem.Spec PyProof.Rows
section
variable {κ:Type} [DecidableEq κ]
def valV (kvs:List (κ × V)) (k:κ):Option V:=(kvs.find? fun kv=>decide (kv.1=k)).map (·.2)
def putK (kvs:List (κ × V)) (k:κ) (v:V):List (κ × V):=
  if (kvs.any fun kv=>decide (kv.1=k))=true then kvs.map (fun kv=>if kv.1=k then (kv.1,v) else kv) else kvs ++ [(k,v)]
theorem valV_pos {p:κ × V} {r:List (κ × V)} {k:κ} (e:p.1=k):valV (p :: r) k=some p.2:=by simp [valV,List.find?_cons,e]
theorem valV_neg {p:κ × V} {r:List (κ × V)} {k:κ} (e:¬ p.1=k):valV (p :: r) k=valV r k:=by simp [valV,List.find?_cons,e]
theorem valV_any (k:κ):∀ kvs:List (κ × V),(kvs.any fun kv=>decide (kv.1=k))=(valV kvs k).isSome
  | []=>rfl
  | p :: r=>by
    rw [List.any_cons]
    by_cases e:p.1=k
    · simp only [valV_pos e,decide_eq_true e,Bool.true_or,Option.isSome_some]
    · rw [valV_neg e,decide_eq_false e,Bool.false_or]; exact valV_any k r
theorem length_putK (kvs:List (κ × V)) (k:κ) (v:V):(putK kvs k v).length<=kvs.length + 1:=by
  unfold putK
  split
  · rw [List.length_map]; omega
  · rw [List.length_append,List.length_cons,List.length_nil]; omega
theorem RelO.isSome_eq {o:Option V} {u:Option Value} (r:RelO o u):o.isSome=u.isSome:=by
  cases o with
  | none=>cases u with
    | none=>rfl
    | some _=>exact (show False from r).elim
  | some _=>cases u with
    | none=>exact (show False from r).elim
    | some _=>rfl
theorem KV.any {kvs:List (κ × V)} {vs:List (κ × Value)} (r:KV kvs vs) (k:κ):(kvs.any fun kv=>decide (kv.1=k))=vs.any fun kv=>decide (kv.1=k):=by
  unfold KV at r
  induction r with
  | nil=>rfl
  | cons h t ih=>rw [List.any_cons,List.any_cons,ih,h.1]
theorem KV.repl {kvs:List (κ × V)} {vs:List (κ × Value)} (r:KV kvs vs) (k:κ) {y:V} {u:Value} (ry:RelV y u) :
    KV (kvs.map fun kv=>if kv.1=k then (kv.1,y) else kv) (vs.map fun kv=>if kv.1=k then (kv.1,u) else kv):=by
  unfold KV at r ⊢
  induction r with
  | nil=>exact .nil
  | @cons p q ps qs h t ih=>
    rw [List.map_cons,List.map_cons]
    refine .cons ?_ ih
    obtain ⟨h1,h2⟩:=h
    by_cases e:p.1=k
    · rw [if_pos e,if_pos (h1.symm.trans e)]; exact ⟨h1,ry⟩
    · rw [if_neg e,if_neg (fun z=>e (h1.trans z))]; exact ⟨h1,h2⟩
theorem KV.put {kvs:List (κ × V)} {vs:List (κ × Value)} (r:KV kvs vs) (k:κ) {y:V} {u:Value} (ry:RelV y u):KV (putK kvs k y) (stored vs k u):=by
  unfold putK stored
  rw [r.any k]
  by_cases e:(vs.any fun kv=>decide (kv.1=k))=true
  · rw [if_pos e,if_pos e]; exact r.repl k ry
  · rw [if_neg e,if_neg e]; exact Paired.snoc r ⟨rfl,ry⟩
theorem KV.length {kvs:List (κ × V)} {vs:List (κ × Value)} (r:KV kvs vs):kvs.length=vs.length:=Paired.length r
end
theorem kV_is {P:Program} {w:World} {k:Key} {u:Value} (r:RelV (kV k) u):(mixKind P w).is k u=true:=by
  cases k with
  | inl i=>obtain ⟨t,e⟩:=(show ∃ t,u=Value.int i t from r); subst e; exact mixKind_int P w i t
  | inr x=>obtain ⟨t,e⟩:=(show ∃ t,u=Value.str x t from r); subst e; exact mixKind_str P w x t
theorem items_are {P:Program} {w:World}:∀ {ks:List Key} {us:List Value},Vals (ks.map kV) us->ItemsAre (mixKind P w) ks us
  | [],_,r=>by rw [List.map_nil] at r; cases r; exact .nil
  | k :: ks,_,r=>by
    rw [List.map_cons] at r
    cases r with
    | cons h t=>exact .cons (kV_is h) (items_are t)
abbrev KT (H:Hp):List (List Key × V)->List (List Key × Addr × Value)->Prop:=Paired fun p q=>p.1=q.1/\H q.2.1=some (.tup (p.1.map kV))/\RelV p.2 q.2.2
theorem KT.val {H:Hp} {kvs:List (List Key × V)} {xs:List (List Key × Addr × Value)} (r:KT H kvs xs) (k:List Key):RelO (valV kvs k) ((atKey xs k).map (·.2)):=by
  induction r with
  | nil=>exact True.intro
  | @cons p q ps qs h t ih=>
    obtain ⟨h1,_,h2⟩:=h
    by_cases e:p.1=k
    · have e':q.1=k:=h1.symm.trans e
      have b:atKey (q :: qs) k=some q.2:=by simp [atKey,List.find?_cons,e']
      rw [valV_pos e,b]; exact h2
    · have e':¬ q.1=k:=fun z=>e (h1.trans z)
      have b:atKey (q :: qs) k=atKey qs k:=by simp [atKey,List.find?_cons,e']
      rw [valV_neg e,b]; exact ih
theorem KT.repl {H:Hp} {kvs:List (List Key × V)} {xs:List (List Key × Addr × Value)} (r:KT H kvs xs) (k:List Key) {y:V} {u:Value} (ry:RelV y u) :
    KT H (kvs.map fun kv=>if kv.1=k then (kv.1,y) else kv) (xs.map (putAt k u)):=by
  induction r with
  | nil=>exact .nil
  | @cons p q ps qs h t ih=>
    rw [List.map_cons,List.map_cons]
    refine .cons ?_ ih
    obtain ⟨h1,h2,h3⟩:=h
    unfold putAt
    by_cases e:p.1=k
    · rw [if_pos e,if_pos (h1.symm.trans e)]; exact ⟨h1,h2,ry⟩
    · rw [if_neg e,if_neg (fun z=>e (h1.trans z))]; exact ⟨h1,h2,h3⟩
theorem KT.put {H:Hp} {kvs:List (List Key × V)} {xs:List (List Key × Addr × Value)} (r:KT H kvs xs) (k:List Key) {b:Addr} {y:V} {u:Value} (hb:H b=some (.tup (k.map kV))) (ry:RelV y u) :
    KT H (putK kvs k y) (storedH xs k b u):=by
  have e:(kvs.any fun kv=>decide (kv.1=k))=(atKey xs k).isSome:=by
    rw [valV_any,(r.val k).isSome_eq,Option.isSome_map]
  unfold putK storedH
  rw [e]
  by_cases q:(atKey xs k).isSome=true
  · rw [if_pos q,if_pos q]; exact r.repl k ry
  · rw [if_neg q,if_neg q]; exact Paired.snoc r ⟨rfl,hb,ry⟩
theorem KT.keeps {H H':Hp} {kvs:List (List Key × V)} {xs:List (List Key × Addr × Value)} (r:KT H kvs xs) (ht:∀ b ys,H b=some (.tup ys)->H' b=some (.tup ys)):KT H' kvs xs:=
  Paired.mapP r fun _ _ z=>⟨z.1,ht _ _ z.2.1,z.2.2⟩
section
variable {P:Program} {w:World} {H:Hp} {h:Heap} {a:Addr}
theorem rd_of {u:HO} (ok:HOk P w H h) (e:Rd H a u):ObjOk P w H h a u:=e.ok ok
theorem dk_rd {kvs:List (Key × V)} (ok:HOk P w H h) (e:Rd H a (.dK kvs)):kvs.length<=sizeLine/\(a == sysModules)=false/\∃ vs,KV kvs vs/\h.DictOf (mixKind P w) a vs:=
  show ObjOk P w H h a (.dK kvs) from rd_of ok e
theorem dk_of {kvs:List (Key × V)} (ok:HOk P w H h) (e:H a=some (.dK kvs)):kvs.length<=sizeLine/\(a == sysModules)=false/\∃ vs,KV kvs vs/\h.DictOf (mixKind P w) a vs:=dk_rd ok (.inl e)
theorem key_of {ks:List Key} (ok:HOk P w H h) (e:H a=some (.tup (ks.map kV))):(tupleKind (mixKind P w)).is h ks a:=by
  obtain ⟨_,its,r,o,h1,h2,n,h3⟩:=(show ObjOk P w H h a (.tup (ks.map kV)) from ok a _ e)
  exact ⟨o,its.toArray,n,h1,h2,h3,by simpa using items_are r⟩
theorem dt_rd {kvs:List (List Key × V)} (ok:HOk P w H h) (e:Rd H a (.dT kvs)):kvs.length<=sizeLine/\(a == sysModules)=false /\
    ∃ xs,KT H kvs xs/\h.DictOfH (tupleKind (mixKind P w)) a xs:=by
  obtain ⟨z,y,xs,r,o,es,ep,h1,h2,h3,h4,h5⟩:=(show ObjOk P w H h a (.dT kvs) from rd_of ok e)
  refine ⟨z,y,xs,r,o,es,ep,h1,h2,h3,h4,fun x hx=>?_,h5⟩
  have all:∀ {l:List (List Key × V)} {m:List (List Key × Addr × Value)},KT H l m->∀ x ∈ m,(tupleKind (mixKind P w)).is h x.1 x.2.1:=by
    intro l m q
    induction q with
    | nil=>intro x hx; exact nomatch hx
    | @cons p q ps qs hq t ih=>
      intro x hx
      rcases List.mem_cons.mp hx with e | hx
      · subst e
        exact key_of ok (by rw [<- hq.1]; exact hq.2.1)
      · exact ih x hx
  exact all r x hx
theorem dt_of {kvs:List (List Key × V)} (ok:HOk P w H h) (e:H a=some (.dT kvs)):kvs.length<=sizeLine/\(a == sysModules)=false /\
    ∃ xs,KT H kvs xs/\h.DictOfH (tupleKind (mixKind P w)) a xs:=dt_rd ok (.inl e)
end
def DPut (H:Hp) (a:Addr) (y v:V) (H':Hp):Prop:=
  (∃ kvs k,H a=some (.dK kvs)/\y=kV k/\kvs.length < sizeLine/\H'=upd H a (.dK (putK kvs k v))) \/
  ∃ kvs k b,H a=some (.dT kvs)/\y=.ref b/\H b=some (.tup (k.map kV))/\kvs.length < sizeLine/\H'=upd H a (.dT (putK kvs k v))
theorem DPut.t {H:Hp} {a b:Addr} {kvs:List (List Key × V)} {k:List Key} {v:V} (e:H a=some (.dT kvs)) (eb:H b=some (.tup (k.map kV))) (hl:kvs.length < sizeLine) :
    DPut H a (.ref b) v (upd H a (.dT (putK kvs k v))):=.inr ⟨kvs,k,b,e,rfl,eb,hl,rfl⟩
section
variable {X:Cx} {pins:List (Addr × Obj)} {σ:St} {H:Hp} {s:Shared} {a:Addr} {y v:V} {u r:Value} {o:Option V} {A:Around} {E:Value->Shared->Prop}
theorem Inv.big (I:Inv X pins σ H s):sysModules < s.heap.objs.size:=by
  have h:mainGlobals < s.heap.objs.size:=(I.mod.glob.keeps I.bk).lt
  exact Nat.lt_trans (by decide) h
theorem d_write {h':Heap} {t':Nat} {ob:HO} (I:Inv X pins σ H s) (mu:Mut (H a)) (hs:Heap.SameBut a s.heap h') (he:∃ q,h'.get? a=some q) (new:ObjOk X.prog X.w (upd H a ob) h' a ob) :
    Inv X pins σ (upd H a ob) { s with heap:=h',toks:=t' }:=
  I.write (x:=a) (e:=a) mu (.inl rfl) (fun b q hb z=>(hs.2 b hb).trans z) he new
theorem dk_new {P:Program} {w:World} {H':Hp} {h':Heap} {kvs:List (Key × V)} {vs:List (Key × Value)} (z:kvs.length<=sizeLine) (hd:(a == sysModules)=false) (rel:KV kvs vs) (dd:h'.DictOf (mixKind P w) a vs) :
    ObjOk P w H' h' a (.dK kvs):=⟨z,hd,vs,rel,dd⟩
theorem d_setItem {H':Hp} {Q:Unit->Shared->Prop} (hu:A.units + 1 < cLine) (I:Inv X pins σ H s) (g:DPut H a y v H') (ry:RelV y u) (rv:RelV v r) (h:∀ s',Inv X pins σ H' s'->Q () s') :
    wpAny (model X.prog X.w) A (setItem (.ref a) u r) Q E s:=by
  rcases g with ⟨kvs,k,e,ey,l,eH⟩ | ⟨kvs,k,b,e,ey,eb,l,eH⟩
  · subst ey eH
    obtain ⟨z,hd,vs,rel,dd⟩:=dk_of I.hok e
    have hz:vs.length<=sizeLine:=by rw [<- rel.length]; exact z
    have hl:(putK kvs k v).length<=sizeLine:=by have:=length_putK kvs k v; omega
    refine wpAny_setItem_pairs (hsz:=hz) (kV_is ry) dd fun h' dd' hs=>h _ ?_
    have he:∃ q,h'.get? a=some q:=let ⟨q,_,_,hq,_⟩:=dd'; ⟨q,hq⟩
    exact d_write I (by rw [e]; exact True.intro) hs he (dk_new hl hd (rel.put k rv) dd')
  · subst ey eH
    cases (show u=Value.ref b from ry)
    obtain ⟨z,hd,xs,rel,dd⟩:=dt_of I.hok e
    have hz:xs.length<=sizeLine:=by rw [<- Paired.length rel]; exact z
    have hl:(putK kvs k v).length<=sizeLine:=by have:=length_putK kvs k v; omega
    refine wpAny_setItem_heap (hsz:=hz) (tupleKind_room_in1 hu) (key_of I.hok eb) dd fun h' dd' hs=>h _ ?_
    obtain ⟨q,es,ep,hq,h2,h3,h4,_,h5⟩:=dd'
    refine d_write I (by rw [e]; exact True.intro) hs ⟨q,hq⟩ ⟨hl,hd,_,(rel.put k eb rv).keeps fun c ys ec=>?_,q,es,ep,hq,h2,h3,h4,h5⟩
    rw [Qb (ne_of ec e (fun z=>nomatch z))]
    exact ec
end
section
variable {X:Cx} {pins:List (Addr × Obj)} {σ:St} {H:Hp} {s:Shared} {a:Addr} {kvs:List (Key × V)} {k:Key} {u:Value} {A:Around} {E:Value->Shared->Prop}
end
def sDPut (td ty tv:TE):TS:=fun D σ H=>tv σ H fun v H1=>td σ H1 fun x H2=>ty σ H2 fun y H3=>∃ a H4,x=.ref a/\DPut H3 a y v H4/\D.nx σ H4
section
variable {X:Cx} {o i e value:Expr} {pos pos' tpos:Pos} {td ty tv:TE}
theorem ps_dput (hu:X.A.units + 1 < cLine) (ho:PE X o td) (hi:PE X i ty) (hv:PE X value tv) (hs:swapsWith value (some (.Subscript o i pos')) pos.line X.env=pure false) :
    PS X (.Assign [.Subscript o i pos'] value pos) (sDPut td ty tv):=by
  intro pins s σ H D I h
  refine wpAny_Assign_Subscript (thn (hv pins s σ H _ I h) fun r s1 ⟨v,H1,I1,rv,q1⟩=>thn (ho pins s1 σ H1 _ I1 q1) fun u s2 ⟨x,H2,I2,rx,q2⟩=>thn (hi pins s2 σ H2 _ I2 q2) fun iv s3 ⟨y,H3,I3,ry,a,H4,ex,g,q3⟩=>?_) hs
  subst ex
  obtain rfl:u=Value.ref a:=rx
  exact d_setItem hu I3 g ry rv fun s4 I4=>⟨σ,H4,I4,q3⟩
end
theorem dt_empty {P:Program} {w:World} {H:Hp} (h:Heap) (hb:sysModules < h.objs.size):ObjOk P w H (h.push { cls:=.type "dict",data:=.dict #[] }) h.objs.size (.dT []):=
  ⟨Nat.zero_le _,beq_eq_false_iff_ne.mpr (Ne.symm (Nat.ne_of_lt hb)),[],.nil,_,#[],0,Heap.get?_push_size _ rfl,⟨rfl,rfl,rfl⟩,rfl,rfl,List.nodup_nil⟩
def tDNewT:TE:=fun _ H Q=>∀ p,H p=none->Q (.ref p) (upd H p (.dT []))
section
variable {X:Cx} {pos:Pos}
theorem pe_dnewT:PE X (.Dict [] [] pos) tDNewT:=fun pins s σ H Q I h=>
  wpAny_Dict_empty ⟨.ref s.heap.objs.size,_,I.laid (a:=s.heap.objs.size) (o:=.dT []) (t':=s.toks) (fun _ _ q=>Heap.get?_push_of_some _ q) (Nat.le_refl _) (dt_empty s.heap I.big),rfl,h _ (I.hok.fresh (Nat.le_refl _))⟩
end
structure M1 (X:Cx) (o:Expr) (m:Str) (apos:Pos) (e:Expr) (cpos:Pos):Prop where
  base:attributeBase o m X.env (eval o X.env)=eval o X.env
  few:((backTo cpos (starEach [e] X.env)).all (fun x=>!x.1) && (backToKw cpos (keywordEach [] X.env)).all (fun x=>x.1.isSome)
    && decide (([e]:List Expr).length + ([]:List Keyword).length + (if ([]:List Keyword).isEmpty then 0 else 1) < 30))=true
  line:(apos.endLine == cpos.line)=true
  trees:backTo cpos (starEach [e] X.env)=[(false,eval e X.env)]
structure M2 (X:Cx) (o:Expr) (m:Str) (apos:Pos) (e f:Expr) (cpos:Pos):Prop where
  base:attributeBase o m X.env (eval o X.env)=eval o X.env
  few:((backTo cpos (starEach [e,f] X.env)).all (fun x=>!x.1) && (backToKw cpos (keywordEach [] X.env)).all (fun x=>x.1.isSome)
    && decide (([e,f]:List Expr).length + ([]:List Keyword).length + (if ([]:List Keyword).isEmpty then 0 else 1) < 30))=true
  line:(apos.endLine == cpos.line)=true
  trees:backTo cpos (starEach [e,f] X.env)=[(false,eval e X.env),(false,eval f X.env)]
section
variable {X:Cx} {pins:List (Addr × Obj)} {σ:St} {H:Hp} {s:Shared} {a:Addr} {y d:V} {u r:Value} {o:Option V} {A:Around} {E:Value->Shared->Prop}
end
section
variable {X:Cx} {o e f:Expr} {apos cpos:Pos} {td ty tx:TE}
end
section
variable {X:Cx} {pins:List (Addr × Obj)} {σ:St} {H:Hp} {s:Shared} {a:Addr} {kvs:List (Key × V)} {A:Around} {E:Value->Shared->Prop}
end
section
variable {X:Cx} {pins:List (Addr × Obj)} {σ:St} {H:Hp} {s:Shared} {a:Addr} {y:V} {u:Value} {A:Around} {E:Value->Shared->Prop}
end
section
variable {X:Cx}
end
end L2
namespace L2
open PySem PySem.Spec PyProof.Rows
open AutoSeq1 (wpAny_loadPart')
section
variable {prog:Program} {w:World} {A:Around} {E:Value->Shared->Prop} {s:Shared}
theorem code_collect_range {R:Result->Shared->Prop} {r:Addr} {a b c:Int} {t u v:Tok} {n:Nat} (hh:A.handled=none) (hr:IsRange s.heap r a b c t u v) (hsmall:Builtin.Range.small a b c=true)
    (hn:Builtin.Range.rangeSize a b c=n) (hlen:n<=2 ^ 24)
    (hR:∀ h' tk acc' c',(∀ b o,s.heap.get? b=some o->h'.get? b=some o)->h'.get? s.heap.objs.size=some { cls:=.type "list",dict:=none,data:=.seq acc' c',slots:=#[] }->ItemsOf (fun i v=>∃ t,v=.int (a + i * c) t) acc' n->R (.ok (.ret (.ref s.heap.objs.size))) { s with heap:=h',toks:=tk }) :
    codeAny (model prog w) A (.builtin "proto.collect" ⟨[.ref r],[]⟩) R s:=by
  refine codeAny_builtin F.entry_proto_collect ?_
  rw [Around.under_plainId F.plain_proto_collect _]
  show wpAny _ A.in1 (newList [] >>= fun l=>again (.builtin "list.__iadd__" ⟨[l,.ref r],[]⟩)) _ _ s
  refine wpAny_bind (wpAny_newObj_type ?_)
  refine wpAny_pure ⟨plainId_quiet F.plain_list_iadd _,codeAny_builtin F.entry_list_iadd ?_⟩
  rw [Around.under_plainId F.plain_list_iadd _]
  have hS:(s.heap.push { cls:=.type "list",data:=.seq ([]:List Value).toArray }).get? s.heap.objs.size=some { cls:=.type "list",data:=.seq ([]:List Value).toArray }:=Heap.get?_push_size _ rfl
  exact wpAny_extend_range (A:=A) (R:=R) (s:={ s with heap:=s.heap.push { cls:=.type "list",data:=.seq ([]:List Value).toArray } }) (c₀:=0) hh (Heap.get?_push_of_some _ hr) hsmall hn hlen s.heap.objs.size (.ref s.heap.objs.size) (hS:=hS) fun h' tk acc' c' hk hS' hacc=>hR h' tk acc' c' (fun b o e=>hk b o (Nat.ne_of_lt (Heap.lt_size e)) (Heap.get?_push_of_some _ e)) hS' hacc
theorem collect_range {Q:List Value->Shared->Prop} {r:Addr} {a b c:Int} {t u v:Tok} {n:Nat} (hh:A.handled=none) (hr:IsRange s.heap r a b c t u v) (hsmall:Builtin.Range.small a b c=true)
    (hn:Builtin.Range.rangeSize a b c=n) (hlen:n<=2 ^ 24)
    (hQ:∀ (s':Shared) (acc:Array Value),(∀ b o,s.heap.get? b=some o->s'.heap.get? b=some o)->s'.gens=s.gens->s'.drawn=s.drawn->s'.os=s.os->ItemsOf (fun i v=>∃ t,v=.int (a + i * c) t) acc n->Q acc.toList s') :
    wpAny (model prog w) A (collect (.ref r)) Q E s:=by
  unfold collect
  refine wpAny_bind (wpAny_runValue (code_collect_range hh hr hsmall hn hlen fun h' tk acc' c' hk hS' hacc=>?_))
  show wpAny _ A (load s.heap.objs.size >>= _) _ _ _
  refine wpAny_bind (wpAny_load hS' ?_)
  exact wpAny_pure (hQ _ acc' hk rfl rfl rfl hacc)
end
theorem meets_tuple_range {r:Addr} {a b c:Int} {t u v:Tok} {n:Nat} (hsmall:Builtin.Range.small a b c=true) (hn:Builtin.Range.rangeSize a b c=n) (hlen:n<=2 ^ 24) :
    Meets (Builtin.«tuple.__new__» ⟨[.type "tuple",.ref r],[]⟩)
      (fun A R s=>A.handled=none/\IsRange s.heap r a b c t u v/\∀ (s':Shared) (acc:Array Value),(∀ b o,s.heap.get? b=some o->s'.heap.get? b=some o)->s'.gens=s.gens->s'.drawn=s.drawn->s'.os=s.os->ItemsOf (fun i v=>∃ t,v=.int (a + i * c) t) acc n ->
        R (.ok (.ret (.ref s'.heap.objs.size))) { s' with heap:=s'.heap.push { cls:=.type "tuple",data:=.seq acc } }):=
  .of_wp fun prog w A R s h=>by
    obtain ⟨hh,hr,h⟩:=h
    have hsub:=sub_tuple_self
    have hinit:=init_tuple_lookup
    have hmh:=madeHere_tuple
    have hT:s.TypeIs (.ref r) "range" := ⟨_,hr,rfl⟩
    have hh1:A.in1.handled=none:=hh
    wp_walk using wpAny_typeOf hT,collect_range hh1 hr hsmall hn hlen
    intro s' acc hk hg hd hos hacc
    show wpAny _ _ (Builtin.Tuple.tupleExact acc.toList.toArray >>= fun v=>ret v) _ _ _
    unfold Builtin.Tuple.tupleExact
    have hsz:acc.toList.toArray.size<=sizeLine:=by simp only [Array.toArray_toList]; rw [hacc.1,sizeLine_eq]; omega
    refine wpAny_bind (wpAny_newObj_type ?_ hsz)
    refine wpAny_pure ⟨_,rfl,?_⟩
    have e:acc.toList.toArray=acc:=by simp
    rw [e]
    exact h s' acc hk hg hd hos hacc
section
variable {prog:Program} {w:World} {A:Around} {E:Value->Shared->Prop} {s:Shared}
theorem call_tuple_range {Q:Value->Shared->Prop} {r:Addr} {a b c:Int} {t u v:Tok} {n:Nat} (hh:A.handled=none) (hr:IsRange s.heap r a b c t u v) (hsmall:Builtin.Range.small a b c=true) (hn:Builtin.Range.rangeSize a b c=n) (hlen:n<=2 ^ 24)
    (h:∀ (h':Heap) (tk:Nat) (acc:Array Value),(∀ b o,s.heap.get? b=some o->h'.get? b=some o)->ItemsOf (fun i v=>∃ t,v=.int (a + i * c) t) acc n->Q (.ref h'.objs.size) { s with heap:=h'.push { cls:=.type "tuple",data:=.seq acc },toks:=tk }) :
    wpAny (model prog w) A (call (.type "tuple") [.ref r]) Q E s:=by
  refine callType_new F.called_tuple (by decide) (F.typeCall_tuple_1 _) (F.newCall_tuple_1 _) (fun obj=>F.args_object_init_2 obj _) F.entry_tuple_new
    (meets_tuple_range (t:=t) (u:=u) (v:=v) hsmall hn hlen) ⟨hh,hr,fun s' acc hk hg hd hos hacc=>⟨⟨_,Heap.get?_push_size _ rfl,rfl⟩,?_⟩⟩
  obtain ⟨h',g',d',tk',os'⟩:=s'
  have e1:g'=s.gens:=hg
  have e2:d'=s.drawn:=hd
  have e3:os'=s.os:=hos
  subst e1 e2 e3
  exact h h' tk' acc hk hacc
end
def tTR (ta:TA):TE:=fun σ H Q=>ta σ H fun vs H1=>∃ n:Nat,vs=[.int (n:Int)]/\n<=1000000/\∀ p,H1 p=none->Q (.ref p) (upd H1 p (.tup ((List.range n).map fun (k:Nat)=>V.int (k:Int))))
section
variable {X:Cx} {a:Expr} {ta:TA} {p p' pos pos':Pos}
theorem pe_tupRange (hc:X.calm=true) (hg:Gl X "tuple") (hm:X.mg "tuple" = none) (hg':Gl X "range") (hm':X.mg "range" = none) (hb:bootBuiltins "tuple" = some (.type "tuple")) (ha:PA X [a] ta) (hs:starEach [a] X.env=[(false,eval a X.env)]:=by rfl)
    (hs2:starEach [.Call (.Name "range" p') [a] [] pos'] X.env=[(false,eval (.Call (.Name "range" p') [a] [] pos') X.env)]:=by rfl) :
    PE X (.Call (.Name "tuple" p) [.Call (.Name "range" p') [a] [] pos'] [] pos) (tTR ta):=by
  intro pins s σ H Q I h
  refine wpAny_Call_Name_kw (ld_blt I hg hm hb ?_ (by decide) (by decide))
  refine PyProof.Rows.callWith_type1 ?_ hs2 rfl
  rw [hs2]
  refine Calls.spliced_cons ?_
  refine Call_ (ld_blt I hg' hm' boot_range (PyProof.Rows.callWith_type1 (thn (ha pos' pins s σ H _ I h) fun us s1 ⟨vs,H1,I1,r1,q1⟩=>?_) hs rfl))
  obtain ⟨n,rfl,hn,q⟩:=q1
  cases r1 with
  | cons r rr=>
    cases rr
    obtain ⟨t,rfl⟩:=r
    refine call_range_1 ?_
    refine Calls.spliced_nil ?_
    have I2:Inv X pins σ H1 { s1 with heap:=s1.heap.push { cls:=.type "range",data:=.fields #[.int 0 s1.toks,.int (n:Int) t,.int 1 (s1.toks + 1)] },toks:=s1.toks + 1 + 1 }:=I1.kept (t':=s1.toks + 1 + 1) fun b ob q=>Heap.get?_push_of_some _ q
    refine call_tuple_range (n:=n) (I1.ok.hd hc) (IsRange.new ..) ?_ ?_ (by omega) fun h' tk acc' hk hacc=>?_
    · have hr:Builtin.Range.rangeSize 0 (n:Int) 1=n:=by
        unfold Builtin.Range.rangeSize
        rw [if_pos (by omega)]
        split <;> omega
      have hf:∀ m:Nat,m<=1000000->Builtin.Range.rangeFitsLong (m:Int)=true:=fun m hm=>by
        unfold Builtin.Range.rangeFitsLong
        simp
        omega
      unfold Builtin.Range.small
      simp [hr,hf n hn,show Builtin.Range.rangeFitsLong 0=true from hf 0 (by omega),show Builtin.Range.rangeFitsLong 1=true from hf 1 (by omega)]
    · unfold Builtin.Range.rangeSize
      rw [if_pos (by omega)]
      split <;> omega
    · have hv:Vals ((List.range n).map fun (k:Nat)=>V.int (k:Int)) acc'.toList:=vals_range (by rw [Array.length_toList]; exact hacc.1) fun j v hj=>by
        obtain ⟨t,rfl⟩:=hacc.2 j v (by simpa using hj)
        exact ⟨t,by simp⟩
      have I3:=I2.kept (t':=tk) (h':=h') hk
      refine ⟨.ref _,_,I3.laid (t':=tk) (o:=.tup ((List.range n).map fun (k:Nat)=>V.int (k:Int))) (fun b o e=>Heap.get?_push_of_some _ e) (Nat.le_refl _) ?_,rfl,q _ (I3.hok.fresh (Nat.le_refl _))⟩
      exact ⟨by rw [List.length_map,List.length_range]; exact Nat.le_trans hn (by decide),acc'.toList,hv,by
        have e:acc'.toList.toArray=acc':=by simp
        rw [e]
        exact IsTup.new _ _⟩
end
end L2
namespace L2
open PySem PySem.Spec PyProof.Rows
section
variable {prog:Program} {w:World} {A:Around} {E:Value->Shared->Prop} {s:Shared}
theorem adjust_rev (n:Nat):Builtin.Slice.sliceAdjust none none (-1) (n:Int)=((n:Int) - 1,-1):=by
  unfold Builtin.Slice.sliceAdjust
  simp
theorem places_rev (n:Nat):Builtin.Slice.slicePlaces ((n:Int) - 1) (-1) (-1)=n:=by
  unfold Builtin.Slice.slicePlaces
  rw [if_neg (by omega)]
  split
  · rw [show (- -1:Int)=1 from rfl,Int.ediv_one]; omega
  · omega
theorem sliceApplied_rev {sl:Addr} {n:Nat} {t:Tok} {Q:Int × Int × Nat->Shared->Prop} (hs:s.heap.IsSliceOf sl .none .none (.int (-1) t)) (h:Q ((n:Int) - 1,-1,n) s) :
    wpAny (model prog w) A (Builtin.Slice.sliceApplied (.ref sl) (pure (n:Int))) Q E s:=by
  obtain ⟨os,hos,hcs,hds⟩:=id hs
  unfold Builtin.Slice.sliceApplied Builtin.Slice.sliceFields
  refine wpAny_bind (wpAny_bind (wpAny_field hos hds (x:=.none) rfl (wpAny_bind (wpAny_field hos hds (x:=.none) rfl (wpAny_bind (wpAny_field hos hds (x:=.int (-1) t) rfl (wpAny_pure ?_)))))))
  refine wpAny_bind (slicePart_int ?_)
  show wpAny _ _ (if ((-1:Int) == 0)=true then _ else _) _ _ s
  rw [if_neg (by decide)]
  refine wpAny_bind (slicePart_none (wpAny_bind (slicePart_none (wpAny_bind (wpAny_pure ?_)))))
  show wpAny _ _ (match Builtin.Slice.sliceAdjust none none (-1) (n:Int) with | (lo,hi)=>pure (lo,(-1:Int),Builtin.Slice.slicePlaces lo hi (-1))) _ _ s
  rw [adjust_rev n]
  show wpAny _ _ (pure ((n:Int) - 1,(-1:Int),Builtin.Slice.slicePlaces ((n:Int) - 1) (-1) (-1))) _ _ s
  rw [places_rev n]
  exact wpAny_pure h
theorem pick_rev (its:List Value):((List.range its.toArray.size).filterMap fun (k:Nat)=>its.toArray[((its.toArray.size:Int) - 1 + (k:Int) * -1).toNat]?).toArray=its.reverse.toArray:=by
  congr 1
  have:=pick_down its its.length (Nat.le_refl _)
  rw [show its.reverse.take its.length=its.reverse from List.take_of_length_le (by simp)] at this
  rw [<- this,List.size_toArray]
  refine fm_congr fun m hm=>?_
  have hm':=List.mem_range.mp hm
  rw [List.getElem?_toArray]
  congr 1
  omega
theorem getItem_tuple_rev {t sl:Addr} {its:List Value} {u:Tok} {Q:Value->Shared->Prop} (ht:IsTup s.heap t its.toArray) (hs:s.heap.IsSliceOf sl .none .none (.int (-1) u))
    (h:Q (.ref s.heap.objs.size) { s with heap:=s.heap.push { cls:=.type "tuple",data:=.seq its.reverse.toArray } })
    (hsz:its.toArray.size<=sizeLine):wpAny (model prog w) A (getItem (.ref t) (.ref sl)) Q E s:=by
  have hdrop:sizeOk (.seq its.reverse.toArray):=by
    show its.reverse.toArray.size<=sizeLine
    rw [List.size_toArray,List.length_reverse]
    rw [List.size_toArray] at hsz
    exact hsz
  obtain ⟨os,hos,hcs,hds⟩:=id hs
  have hTs:s.TypeIs (.ref sl) "slice" := ⟨os,hos,hcs⟩
  unfold getItem
  try with_reducible refine wpAny_holding ?_
  first | refine wpAny_bind (wpAny_pure ?_) | skip
  refine wpAny_bind (wpAny_sequenceKey ht.typeIs (by decide) ?_)
  refine wpAny_bind (wpAny_callSpecial?_slot (name:=Str.ofString "__getitem__") ht.typeIs slot_tuple_getitem
    (wpAny_call_entry slot_tuple_getitem ht.typeIs entry_tuple_getitem ?_ (args_tuple_getitem _ _)))
  show wpAny _ _ (Builtin.Tuple.tupleItemsOf (.ref t) >>= _) _ _ s
  refine wpAny_bind (tupleItemsOf_ ht ?_)
  refine wpAny_bind (wpAny_typeOf hTs ?_)
  rw [if_pos (by decide)]
  refine wpAny_bind (sliceApplied_rev hs ?_)
  have hno:¬ ((((its.toArray.size:Int) - 1) == 0 && (-1:Int) == 1 && its.toArray.size == its.toArray.size)=true):=by
    have:((-1:Int) == 1)=false:=by decide
    rw [this]; simp
  show wpAny _ _ (if (((its.toArray.size:Int) - 1) == 0 && (-1:Int) == 1 && its.toArray.size == its.toArray.size)=true then _ else _) _ _ s
  rw [if_neg hno,pick_rev its]
  first
    | exact wpAny_bind (m:=Builtin.Tuple.tupleExact _) (wpAny_newObj_type (wpAny_pure ⟨_,rfl,wpAny_pure h⟩) hdrop)
    | exact wpAny_bind (m:=Builtin.Tuple.tupleExact _) (wpAny_newObj_type (wpAny_bind (wpAny_pure (wpAny_pure ⟨_,rfl,wpAny_pure h⟩))) hdrop)
    | exact wpAny_bind (wpAny_bind (m:=Builtin.Tuple.tupleExact _) (wpAny_newObj_type (wpAny_pure (wpAny_pure ⟨_,rfl,wpAny_pure h⟩)) hdrop))
    | exact wpAny_bind (wpAny_bind (m:=Builtin.Tuple.tupleExact _) (wpAny_newObj_type (wpAny_pure ⟨_,rfl,wpAny_pure h⟩) hdrop))
end
section
variable {X:Cx} {e e3:Expr} {te t3:TE} {pos p2:Pos}
def tRevT (K:PySem.W.Frag) (te t3:TE):TE:=fun σ H Q=>te σ H fun x H1=>t3 σ H1 fun y H2=>y=.int (-1)/\∃ a xs,x=.ref a/\SqT K H2 a xs/\∀ p,H2 p=none->Q (.ref p) (upd H2 p (.tup xs.reverse))
theorem pe_revT (he:PE X e te) (h3:PE X e3 t3):PE X (.Subscript e (.Slice none none (some e3) p2) pos) (tRevT X.K te t3):=by
  intro pins s σ H Q I h
  refine Subscript_ (thn (he pins s σ H _ I h) fun v s1 ⟨x,H1,I1,r1,q1⟩=>?_)
  refine wpAny_Slice ?_
  rw [evalPart_none]
  refine wpAny_pure (wpAny_pure ?_)
  rw [evalPart_some]
  refine thn (h3 pins s1 σ H1 _ I1 q1) fun vs s2 ⟨y,H2,I2,r2,q2⟩=>?_
  obtain ⟨rfl,a,xs,rfl,hx,q⟩:=q2
  obtain ⟨t,rfl⟩:=r2
  cases r1
  have I4:Inv X pins σ H2 { s2 with heap:=s2.heap.push { cls:=.type "slice",data:=.fields #[.none,.none,.int (-1) t] } }:=I2.kept (t':=s2.toks) fun b ob q=>Heap.get?_push_of_some _ q
  have hs:({ s2 with heap:=s2.heap.push { cls:=.type "slice",data:=.fields #[.none,.none,.int (-1) t] } }:Shared).heap.IsSliceOf s2.heap.objs.size .none .none (.int (-1) t):=Heap.IsSliceOf.new ..
  obtain ⟨its,r,ht,hz⟩:=I4.tuple hx
  have hlen:=r.length
  show wpAny (model X.prog X.w) X.A (subscriptTail e (.Slice none none (some e3) p2) (.ref a) (.ref s2.heap.objs.size)) (EP X pins σ Q) X.xe { s2 with heap:=s2.heap.push { cls:=.type "slice",data:=.fields #[.none,.none,.int (-1) t] } }
  refine tail_any (ops:=[.ref a,.ref s2.heap.objs.size]) ht.typeIs slot_tuple_getitem.lookup ?_ (by with_unfolding_all rfl)
  refine getItem_tuple_rev ht hs ?_ (by rw [List.size_toArray] <;> omega)
  refine ⟨.ref _,_,I4.laid (t':=s2.toks) (o:=.tup xs.reverse) (fun b ob q=>Heap.get?_push_of_some _ q) (Nat.le_refl _) ?_,rfl,q _ (I4.hok.fresh (Nat.le_refl _))⟩
  exact ⟨by rw [List.length_reverse]; exact hz,_,r.reverse,IsTup.new _ _⟩
end
end L2
namespace L2
open PySem PySem.Spec PyProof.Rows
section
variable {prog:Program} {w:World} {K:Type} [DecidableEq K] {knd:KeyKind prog w K} {A:Around} {R:Result->Shared->Prop}
end
end L2
namespace L2
open PySem PySem.Spec PyProof.Rows
section
variable {X:Cx} {pins:List (Addr × Obj)} {σ:St} {H:Hp} {s:Shared} {a:Addr} {tg:Expr}
end
end L2
namespace L2
open PySem PySem.Spec PyProof.Rows PySem.W
def evT {α:Type} (c:Nat->Nat->Bool):KasT α->α
  | .ret a=>a
  | .ask i j k=>evT c (k (c i j))
theorem evT_bind {α β:Type} (c:Nat->Nat->Bool) (f:α->KasT β):∀ t:KasT α,evT c (t.bind f)=evT c (f (evT c t))
  | .ret _=>rfl
  | .ask i j k=>evT_bind c f (k (c i j))
section
variable (r:Nat->Nat)
def rk (p:Array Nat) (i:Nat):Nat:=r (p.getD i 0)
def cR:Nat->Nat->Bool:=fun i j=>decide (r i < r j)
variable {r}
theorem rk_of {p q:Array Nat} {i j:Nat} (h:p[i]?=q[j]?):rk r p i=rk r q j:=by
  unfold rk
  rw [Array.getD_eq_getD_getElem?,Array.getD_eq_getD_getElem?,h]
theorem rk_rev {p:Array Nat} {i j:Nat} (hj:j<=p.size) (k:Nat):rk r (kas_rev p i j) k=if i<=k/\k < j then rk r p (i + j - 1 - k) else rk r p k:=by
  have h:=getElem?_mirror_all (xs:=p) (i:=i) hj k
  by_cases q:i<=k/\k < j
  · rw [if_pos q] at h ⊢; exact rk_of h
  · rw [if_neg q] at h ⊢; exact rk_of h
theorem rk_bub {p:Array Nat} {src d:Nat} (hs:src < p.size) (hd:d<=src) (k:Nat):rk r (bubble p src d) k=if k=src - d then rk r p src else if src - d < k/\k<=src then rk r p (k - 1) else rk r p k:=by
  have h:=getElem?_bubble hs d hd k
  by_cases q:k=src - d
  · rw [if_pos q] at h ⊢; exact rk_of h
  · rw [if_neg q] at h ⊢
    by_cases q2:src - d < k/\k<=src
    · rw [if_pos q2] at h ⊢; exact rk_of h
    · rw [if_neg q2] at h ⊢; exact rk_of h
theorem rev_size {p:Array Nat} (i j:Nat):(kas_rev p i j).size=p.size:=mirror_size _ _ _ _
theorem rev_perm {p:Array Nat} (i j:Nat):(kas_rev p i j).Perm p:=mirror_perm _ _ _ _
theorem asc_ev (p:Array Nat):∀ f n,1<=n->n<=evT (cR r) (kas_asc p f n)/\evT (cR r) (kas_asc p f n)<=n + f/\(∀ i,n<=i->i < evT (cR r) (kas_asc p f n)->rk r p (i - 1)<=rk r p i)/\(evT (cR r) (kas_asc p f n) < n + f->rk r p (evT (cR r) (kas_asc p f n)) < rk r p (evT (cR r) (kas_asc p f n) - 1))
  | 0,n,_=>⟨Nat.le_refl _,Nat.le_refl _,fun i h1 h2=>absurd h2 (by show ¬ i < n; omega),fun h=>absurd h (by show ¬ n < n + 0; omega)⟩
  | f + 1,n,hn=>by
    have e:evT (cR r) (kas_asc p (f + 1) n)=if rk r p n < rk r p (n - 1) then n else evT (cR r) (kas_asc p f (n + 1)):=by
      show evT (cR r) (if decide (rk r p n < rk r p (n - 1))=true then KasT.ret n else kas_asc p f (n + 1))=_
      by_cases q:rk r p n < rk r p (n - 1)
      · rw [if_pos (by simpa using q),if_pos q]; rfl
      · rw [if_neg (by simpa using q),if_neg q]
    rw [e]
    by_cases q:rk r p n < rk r p (n - 1)
    · rw [if_pos q]
      exact ⟨Nat.le_refl _,by omega,fun i h1 h2=>by omega,fun _=>q⟩
    · rw [if_neg q]
      obtain ⟨h1,h2,h3,h4⟩:=asc_ev p f (n + 1) (by omega)
      refine ⟨by omega,by omega,fun i g1 g2=>?_,fun g=>h4 (by omega)⟩
      by_cases z:i=n
      · subst z; omega
      · exact h3 i (by omega) g2
theorem rk_eqrev {p:Array Nat} {i j:Nat} (hj:j<=p.size) (h:∀ k,i<=k->k < j->rk r p k=rk r p (j - 1)) (k:Nat):rk r (kas_rev p i j) k=rk r p k:=by
  rw [rk_rev hj]
  by_cases q:i<=k/\k < j
  · rw [if_pos q,h (i + j - 1 - k) (by omega) (by omega),h k q.1 q.2]
  · rw [if_neg q]
structure Dsc (r:Nat->Nat) (p:Array Nat) (n q:Nat):Prop where
  n1:1<=n
  sz:n<=p.size
  qn:q + 1<=n
  de:∀ i,1<=i->i < n->rk r p i<=rk r p (i - 1)
  eq:∀ i,n - (q + 1)<=i->i < n->rk r p i=rk r p (n - 1)
theorem desc_ev:∀ f (p:Array Nat) n q,Dsc r p n q->n + f<=p.size->Dsc r (evT (cR r) (kas_desc f p n q)).1 (evT (cR r) (kas_desc f p n q)).2.1 (evT (cR r) (kas_desc f p n q)).2.2/\(evT (cR r) (kas_desc f p n q)).1.Perm p/\n<=(evT (cR r) (kas_desc f p n q)).2.1/\(evT (cR r) (kas_desc f p n q)).2.1<=n + f
  | 0,p,n,q,h,_=>⟨h,Array.Perm.refl _,Nat.le_refl _,Nat.le_refl _⟩
  | f + 1,p,n,q,h,hs=>by
    have e:evT (cR r) (kas_desc (f + 1) p n q)=if rk r p n < rk r p (n - 1) then (if q > 0 then evT (cR r) (kas_desc f (kas_rev p (n - (q + 1)) n) (n + 1) 0) else evT (cR r) (kas_desc f p (n + 1) 0)) else if rk r p (n - 1) < rk r p n then (p,n,q) else evT (cR r) (kas_desc f p (n + 1) (q + 1)):=by
      show evT (cR r) (if decide (rk r p n < rk r p (n - 1))=true then (if q > 0 then kas_desc f (kas_rev p (n - (q + 1)) n) (n + 1) 0 else kas_desc f p (n + 1) 0) else KasT.ask (p.getD (n - 1) 0) (p.getD n 0) fun d=>if d=true then .ret (p,n,q) else kas_desc f p (n + 1) (q + 1))=_
      by_cases z:rk r p n < rk r p (n - 1)
      · rw [if_pos (by simpa using z),if_pos z]
        split <;> rfl
      · rw [if_neg (by simpa using z),if_neg z]
        show evT (cR r) (if decide (rk r p (n - 1) < rk r p n)=true then KasT.ret (p,n,q) else kas_desc f p (n + 1) (q + 1))=_
        by_cases z2:rk r p (n - 1) < rk r p n
        · rw [if_pos (by simpa using z2),if_pos z2]; rfl
        · rw [if_neg (by simpa using z2),if_neg z2]
    rw [e]
    by_cases z:rk r p n < rk r p (n - 1)
    · rw [if_pos z]
      by_cases hq:q > 0
      · rw [if_pos hq]
        have he:=rk_eqrev (r:=r) (p:=p) (i:=n - (q + 1)) (j:=n) h.sz h.eq
        obtain ⟨h1,h2,h3,h4⟩:=desc_ev f (kas_rev p (n - (q + 1)) n) (n + 1) 0 ⟨by omega,by rw [rev_size]; omega,by omega,fun i g1 g2=>by
          rw [he,he]
          by_cases y:i=n
          · subst y; omega
          · exact h.de i g1 (by omega),fun i g1 g2=>by
          have:i=n:=by omega
          subst this; rfl⟩ (by rw [rev_size]; omega)
        exact ⟨h1,h2.trans (rev_perm _ _),by omega,by omega⟩
      · rw [if_neg hq]
        obtain ⟨h1,h2,h3,h4⟩:=desc_ev f p (n + 1) 0 ⟨by omega,by omega,by omega,fun i g1 g2=>by
          by_cases y:i=n
          · subst y; omega
          · exact h.de i g1 (by omega),fun i g1 g2=>by
          have:i=n:=by omega
          subst this; rfl⟩ (by omega)
        exact ⟨h1,h2,by omega,by omega⟩
    · rw [if_neg z]
      by_cases z2:rk r p (n - 1) < rk r p n
      · rw [if_pos z2]
        exact ⟨h,Array.Perm.refl _,Nat.le_refl _,by show n<=n + (f + 1); omega⟩
      · rw [if_neg z2]
        have hn:=h.n1
        have hqn:=h.qn
        obtain ⟨h1,h2,h3,h4⟩:=desc_ev f p (n + 1) (q + 1) ⟨by omega,by omega,by omega,fun i g1 g2=>by
          by_cases y:i=n
          · subst y; omega
          · exact h.de i g1 (by omega),fun i g1 g2=>by
          show rk r p i=rk r p n
          by_cases y:i=n
          · rw [y]
          · rw [h.eq i (by omega) (by omega)]; omega⟩ (by omega)
        exact ⟨h1,h2,by omega,by omega⟩
def Srt (r:Nat->Nat) (p:Array Nat) (m:Nat):Prop:=∀ i,1<=i->i < m->rk r p (i - 1)<=rk r p i
theorem tail_ev {p:Array Nat} {n nrem:Nat} (hn:1<=n) (hnr:n<=nrem) (hs:nrem<=p.size) (hd:∀ i,1<=i->i < n->rk r p i<=rk r p (i - 1)) :
    1<=(evT (cR r) (kas_tail3 n nrem p)).1/\(evT (cR r) (kas_tail3 n nrem p)).1<=nrem/\Srt r (evT (cR r) (kas_tail3 n nrem p)).2 (evT (cR r) (kas_tail3 n nrem p)).1/\(evT (cR r) (kas_tail3 n nrem p)).2.Perm p:=by
  obtain ⟨h1,h2,h3,_⟩:=asc_ev (r:=r) (kas_rev p 0 n) (nrem - n) n hn
  unfold kas_tail3
  rw [evT_bind]
  show 1<=evT (cR r) (kas_asc (kas_rev p 0 n) (nrem - n) n)/\_/\Srt r (kas_rev p 0 n) _/\(kas_rev p 0 n).Perm p
  refine ⟨by omega,by show evT (cR r) (kas_asc (kas_rev p 0 n) (nrem - n) n)<=nrem; omega,fun i g1 g2=>?_,rev_perm _ _⟩
  by_cases z:i < n
  · rw [rk_rev (by omega),rk_rev (by omega),if_pos (by omega),if_pos (by omega)]
    have:=hd (0 + n - 1 - (i - 1)) (by omega) (by omega)
    rw [show 0 + n - 1 - (i - 1) - 1=0 + n - 1 - i by omega] at this
    exact this
  · exact h3 i (by omega) g2
theorem descPart_ev {p:Array Nat} {n nrem:Nat} (hn:1<=n) (hnr:n < nrem) (hs:nrem<=p.size) (heq:∀ i,i < n->rk r p i=rk r p (n - 1)) (hlt:rk r p n < rk r p (n - 1)) :
    1<=(evT (cR r) (kas_descPart n nrem p)).1/\(evT (cR r) (kas_descPart n nrem p)).1<=nrem/\Srt r (evT (cR r) (kas_descPart n nrem p)).2 (evT (cR r) (kas_descPart n nrem p)).1/\(evT (cR r) (kas_descPart n nrem p)).2.Perm p:=by
  obtain ⟨D,P,h3,h4⟩:=desc_ev (r:=r) (nrem - (n + 1)) p (n + 1) 0 ⟨by omega,by omega,by omega,fun i g1 g2=>by
    by_cases y:i=n
    · subst y; omega
    · rw [heq i (by omega),heq (i - 1) (by omega)]; exact Nat.le_refl _,fun i g1 g2=>by
    have:i=n:=by omega
    subst this; rfl⟩ (by omega)
  unfold kas_descPart
  rw [evT_bind]
  generalize evT (cR r) (kas_desc (nrem - (n + 1)) p (n + 1) 0)=x at *
  obtain ⟨p1,m,q⟩:=x
  have sz:p1.size=p.size:=P.size_eq
  simp only at D P h3 h4
  dsimp only
  by_cases z:q > 0
  · rw [if_pos z]
    have he:=rk_eqrev (r:=r) (p:=p1) (i:=m - (q + 1)) (j:=m) D.sz D.eq
    obtain ⟨a,b,c,d⟩:=tail_ev (r:=r) (p:=kas_rev p1 (m - (q + 1)) m) (n:=m) (nrem:=nrem) D.n1 (by omega) (by rw [rev_size]; omega) (fun i g1 g2=>by rw [he,he]; exact D.de i g1 g2)
    exact ⟨a,b,c,(d.trans (rev_perm _ _)).trans P⟩
  · rw [if_neg z]
    obtain ⟨a,b,c,d⟩:=tail_ev (r:=r) (p:=p1) (n:=m) (nrem:=nrem) D.n1 (by omega) (by omega) D.de
    exact ⟨a,b,c,d.trans P⟩
theorem Srt.le {p:Array Nat} {m:Nat} (h:Srt r p m):∀ {i j:Nat},i<=j->j < m->rk r p i<=rk r p j:=by
  intro i j hij
  induction j with
  | zero => intro _; have : i = 0 := by omega
            subst this; exact Nat.le_refl _
  | succ j ih=>
    intro hj
    by_cases z:i=j + 1
    · subst z; exact Nat.le_refl _
    · have h1:=ih (by omega) (by omega)
      have h2:=h (j + 1) (by omega) hj
      rw [Nat.add_sub_cancel] at h2
      exact Nat.le_trans h1 h2
theorem count_ev {p:Array Nat} {n:Nat} (hn:1<=n) (hs:n<=p.size) :
    1<=(evT (cR r) (kas_count n p)).1/\(evT (cR r) (kas_count n p)).1<=n/\Srt r (evT (cR r) (kas_count n p)).2 (evT (cR r) (kas_count n p)).1/\(evT (cR r) (kas_count n p)).2.Perm p:=by
  obtain ⟨h1,h2,h3,h4⟩:=asc_ev (r:=r) p (n - 1) 1 (Nat.le_refl _)
  unfold kas_count
  rw [evT_bind]
  generalize evT (cR r) (kas_asc p (n - 1) 1)=m at *
  have S:Srt r p m:=fun i g1 g2=>h3 i g1 g2
  by_cases z:m=n
  · subst z
    rw [if_pos (by simp)]
    exact ⟨h1,Nat.le_refl _,S,Array.Perm.refl _⟩
  · rw [if_neg (by simpa using z)]
    have hlt:=h4 (by omega)
    by_cases z2:m > 1
    · rw [if_pos z2]
      show 1<=(evT (cR r) (if decide (rk r p 0 < rk r p (m - 1))=true then KasT.ret (m,p) else kas_descPart m n (kas_rev p 0 m))).1/\(evT (cR r) (if decide (rk r p 0 < rk r p (m - 1))=true then KasT.ret (m,p) else kas_descPart m n (kas_rev p 0 m))).1<=n/\Srt r (evT (cR r) (if decide (rk r p 0 < rk r p (m - 1))=true then KasT.ret (m,p) else kas_descPart m n (kas_rev p 0 m))).2 (evT (cR r) (if decide (rk r p 0 < rk r p (m - 1))=true then KasT.ret (m,p) else kas_descPart m n (kas_rev p 0 m))).1/\(evT (cR r) (if decide (rk r p 0 < rk r p (m - 1))=true then KasT.ret (m,p) else kas_descPart m n (kas_rev p 0 m))).2.Perm p
      by_cases z3:rk r p 0 < rk r p (m - 1)
      · rw [if_pos (by simpa using z3)]
        exact ⟨h1,by show m<=n; omega,S,Array.Perm.refl _⟩
      · rw [if_neg (by simpa using z3)]
        have eq:∀ i,i < m->rk r p i=rk r p (m - 1):=fun i hi=>by
          have a:=S.le (i:=0) (j:=i) (by omega) hi
          have b:=S.le (i:=i) (j:=m - 1) (by omega) (by omega)
          omega
        have he:=rk_eqrev (r:=r) (p:=p) (i:=0) (j:=m) (by omega) (fun k _ hk=>eq k hk)
        obtain ⟨a,b,c,d⟩:=descPart_ev (r:=r) (p:=kas_rev p 0 m) (n:=m) (nrem:=n) h1 (by omega) (by rw [rev_size]; exact hs) (fun i hi=>by rw [he,he]; exact eq i hi) (by rw [he,he]; exact hlt)
        exact ⟨a,b,c,d.trans (rev_perm _ _)⟩
    · rw [if_neg z2]
      have:m=1:=by omega
      subst this
      exact descPart_ev (r:=r) (Nat.le_refl _) (by omega) hs (fun i hi=>by rw [show i=0 by omega]) hlt
theorem place_ev {p:Array Nat} {k:Nat} (S:Srt r p k):∀ f l q,l<=q->q<=k->q - l<=f->(∀ i,i < l->rk r p i<=rk r p k)->(∀ i,q<=i->i < k->rk r p k < rk r p i) ->
    evT (cR r) (kas_place p k f l q)<=k/\(∀ i,i < evT (cR r) (kas_place p k f l q)->rk r p i<=rk r p k)/\(∀ i,evT (cR r) (kas_place p k f l q)<=i->i < k->rk r p k < rk r p i)
  | 0,l,q,h1,h2,h3,h4,h5=>by
    have:l=q:=by omega
    subst this
    exact ⟨h2,h4,h5⟩
  | f + 1,l,q,h1,h2,h3,h4,h5=>by
    by_cases z:l>=q
    · have:l=q:=by omega
      subst this
      have e:evT (cR r) (kas_place p k (f + 1) l l)=l:=by rw [kas_place,if_pos (Nat.le_refl _)]; rfl
      rw [e]
      exact ⟨h2,h4,h5⟩
    · have e:evT (cR r) (kas_place p k (f + 1) l q)=if rk r p k < rk r p ((l + q) / 2) then evT (cR r) (kas_place p k f l ((l + q) / 2)) else evT (cR r) (kas_place p k f ((l + q) / 2 + 1) q):=by
        rw [kas_place,if_neg z]
        show evT (cR r) (if decide (rk r p k < rk r p ((l + q) / 2))=true then kas_place p k f l ((l + q) / 2) else kas_place p k f ((l + q) / 2 + 1) q)=_
        by_cases y:rk r p k < rk r p ((l + q) / 2)
        · rw [if_pos (by simpa using y),if_pos y]
        · rw [if_neg (by simpa using y),if_neg y]
      rw [e]
      have m1:l<=(l + q) / 2:=by omega
      have m2:(l + q) / 2 < q:=by omega
      generalize (l + q) / 2=mm at *
      by_cases y:rk r p k < rk r p mm
      · rw [if_pos y]
        exact place_ev S f l mm m1 (by omega) (by omega) h4 fun i g1 g2=>Nat.lt_of_lt_of_le y (S.le g1 g2)
      · rw [if_neg y]
        exact place_ev S f (mm + 1) q (by omega) h2 (by omega) (fun i g=>Nat.le_trans (S.le (show i<=mm by omega) (by omega)) (by omega)) h5
theorem bin_ev:∀ f (p:Array Nat) k,1<=k->k + f<=p.size->Srt r p k->Srt r (evT (cR r) (kas_bin f p k)) (k + f)/\(evT (cR r) (kas_bin f p k)).Perm p
  | 0,p,k,_,_,S=>⟨S,Array.Perm.refl _⟩
  | f + 1,p,k,hk,hs,S=>by
    obtain ⟨h1,h2,h3⟩:=place_ev S k 0 k (Nat.zero_le _) (Nat.le_refl _) (by omega) (fun i g=>by omega) (fun i g1 g2=>by omega)
    have e:evT (cR r) (kas_bin (f + 1) p k)=evT (cR r) (kas_bin f (bubble p k (k - evT (cR r) (kas_place p k k 0 k))) (k + 1)):=by rw [kas_bin,evT_bind]
    rw [e]
    generalize evT (cR r) (kas_place p k k 0 k)=l at *
    have S2:Srt r (bubble p k (k - l)) (k + 1):=fun i g1 g2=>by
      rw [rk_bub (by omega) (by omega),rk_bub (by omega) (by omega),show k - (k - l)=l by omega]
      by_cases a:i=l
      · subst a
        rw [if_neg (by omega),if_neg (by omega),if_pos rfl]
        exact h2 (i - 1) (by omega)
      · by_cases b:i - 1=l
        · rw [if_pos b,if_neg a,if_pos (by omega),b]
          exact Nat.le_of_lt (h3 l (Nat.le_refl _) (by omega))
        · rw [if_neg b,if_neg a]
          by_cases c:l < i
          · rw [if_pos (by omega),if_pos (by omega)]
            exact S (i - 1) (by omega) (by omega)
          · rw [if_neg (by omega),if_neg (by omega)]
            exact S i g1 (by omega)
    obtain ⟨a,b⟩:=bin_ev f (bubble p k (k - l)) (k + 1) (by omega) (by rw [bubble_size]; omega) S2
    exact ⟨by rw [show k + (f + 1)=k + 1 + f by omega]; exact a,b.trans (bubble_perm _ _ _)⟩
theorem sort_ev {n:Nat} (hn:1<=n):Srt r (evT (cR r) (kas_sort n)) n/\(evT (cR r) (kas_sort n)).Perm (List.toArray (List.range n)):=by
  obtain ⟨h1,h2,h3,h4⟩:=count_ev (r:=r) (p:=List.toArray (List.range n)) (n:=n) hn (by simp)
  unfold kas_sort
  rw [evT_bind]
  generalize evT (cR r) (kas_count n (List.toArray (List.range n)))=x at *
  obtain ⟨m,p⟩:=x
  have sz:p.size=n:=by have:=h4.size_eq; simpa using this
  simp only at h1 h2 h3 h4
  dsimp only
  by_cases z:m < n
  · rw [if_pos z,show max m 1=m by omega]
    obtain ⟨a,b⟩:=bin_ev (r:=r) (n - m) p m h1 (by omega) h3
    rw [show m + (n - m)=n by omega] at a
    exact ⟨a,b.trans h4⟩
  · rw [if_neg z]
    have:m=n:=by omega
    subst this
    exact ⟨h3,h4⟩
end
def Asks {α:Type} (n:Nat):KasT α->(α->Prop)->Prop
  | .ret a,P=>P a
  | .ask i j k,P=>i < n/\j < n/\∀ b,Asks n (k b) P
theorem Asks.bind {α β:Type} {n:Nat} {P:α->Prop} {Q:β->Prop} {f:α->KasT β} (hf:∀ a,P a->Asks n (f a) Q):∀ {t:KasT α},Asks n t P->Asks n (t.bind f) Q
  | .ret a,h=>hf a h
  | .ask i j k,h=>⟨h.1,h.2.1,fun b=>Asks.bind hf (h.2.2 b)⟩
def AL (n:Nat) (p:Array Nat):Prop:=0 < n/\∀ x ∈ p.toList,x < n
theorem AL.get {n:Nat} {p:Array Nat} (h:AL n p) (i:Nat):p.getD i 0 < n:=by
  rw [Array.getD_eq_getD_getElem?]
  by_cases z:i < p.size
  · rw [Array.getElem?_eq_getElem z]
    exact h.2 _ (by simp)
  · rw [Array.getElem?_eq_none (by omega)]; exact h.1
theorem AL.perm {n:Nat} {p q:Array Nat} (h:AL n p) (e:q.Perm p):AL n q:=⟨h.1,fun x hx=>h.2 x ((Array.perm_iff_toList_perm.mp e).mem_iff.mp hx)⟩
theorem asks_if {α:Type} {n:Nat} {P:α->Prop} {c:Prop} [Decidable c] {t u:KasT α} (h1:Asks n t P) (h2:Asks n u P):Asks n (if c then t else u) P:=by
  split
  · exact h1
  · exact h2
theorem asks_asc {n:Nat} {p:Array Nat} (h:AL n p):∀ f m,Asks n (kas_asc p f m) (fun _=>True)
  | 0,m=>trivial
  | f + 1,m=>⟨h.get _,h.get _,fun b=>asks_if trivial (asks_asc h f (m + 1))⟩
theorem asks_desc {n:Nat}:∀ f (p:Array Nat) m q,AL n p->Asks n (kas_desc f p m q) (fun x=>AL n x.1)
  | 0,p,m,q,h=>h
  | f + 1,p,m,q,h=>⟨h.get _,h.get _,fun b=>asks_if (asks_if (asks_desc f _ _ _ (h.perm (rev_perm _ _))) (asks_desc f _ _ _ h)) ⟨h.get _,h.get _,fun d=>asks_if h (asks_desc f _ _ _ h)⟩⟩
theorem asks_tail {n:Nat} {p:Array Nat} (h:AL n p) (m k:Nat):Asks n (kas_tail3 m k p) (fun x=>AL n x.2):=by
  unfold kas_tail3
  refine Asks.bind (P:=fun _=>True) (fun a _=>?_) (asks_asc (h.perm (rev_perm _ _)) _ _)
  exact h.perm (rev_perm _ _)
theorem asks_descPart {n:Nat} {p:Array Nat} (h:AL n p) (m k:Nat):Asks n (kas_descPart m k p) (fun x=>AL n x.2):=
  Asks.bind (fun x hx=>asks_if (asks_tail (AL.perm hx (rev_perm _ _)) _ _) (asks_tail hx _ _)) (asks_desc _ _ _ _ h)
theorem asks_count {n:Nat} {p:Array Nat} (h:AL n p) (k:Nat):Asks n (kas_count k p) (fun x=>AL n x.2):=by
  unfold kas_count
  refine Asks.bind (P:=fun _=>True) (fun m _=>?_) (asks_asc h _ _)
  refine asks_if (show AL n p from h) (asks_if ?_ (asks_descPart h _ _))
  exact ⟨h.get _,h.get _,fun c=>asks_if (show AL n p from h) (asks_descPart (h.perm (rev_perm _ _)) _ _)⟩
theorem asks_place {n:Nat} {p:Array Nat} (h:AL n p) (k:Nat):∀ f l q,Asks n (kas_place p k f l q) (fun _=>True)
  | 0,_,_=>trivial
  | f + 1,l,q=>by
    rw [kas_place]
    exact asks_if trivial ⟨h.get _,h.get _,fun c=>asks_if (asks_place h k f _ _) (asks_place h k f _ _)⟩
theorem asks_bin {n:Nat}:∀ f (p:Array Nat) k,AL n p->Asks n (kas_bin f p k) (fun _=>True)
  | 0,_,_,_=>trivial
  | f + 1,p,k,h=>by
    rw [kas_bin]
    exact Asks.bind (fun l _=>asks_bin f _ _ (h.perm (bubble_perm _ _ _))) (asks_place h k _ _ _)
theorem asks_sort {n:Nat} (hn:1<=n):Asks n (kas_sort n) (fun _=>True):=by
  have h:AL n (List.toArray (List.range n)):=⟨hn,fun x hx=>by simpa using hx⟩
  unfold kas_sort
  refine Asks.bind (P:=fun x=>AL n x.2) (fun x hx=>?_) (asks_count h n)
  exact asks_if (asks_bin _ _ _ hx) (show True from trivial)
theorem kasWp_ev {α:Type} {cmp:Nat->Nat->(Bool->Shared->Prop)->Shared->Prop} {c:Nat->Nat->Bool} {n:Nat} {s:Shared} (h:∀ i j (C:Bool->Shared->Prop),i < n->j < n->C (c i j) s->cmp i j C s) :
    ∀ (t:KasT α) (P:α->Prop) (Q:α->Shared->Prop),Asks n t P->Q (evT c t) s->t.kasWp cmp Q s
  | .ret a,_,_,_,q=>q
  | .ask i j k,P,Q,a,q=>h i j _ a.1 a.2.1 (kasWp_ev h (k (c i j)) P Q (a.2.2 _) q)
end L2
namespace L2
open PySem PySem.Spec PyProof.Rows PySem.W
section
variable {prog:Program} {w:World} {A:Around} {E:Value->Shared->Prop} {s:Shared}
inductive TupsAre (h:Heap):List Value->List (List Int)->Prop
  | nil:TupsAre h [] []
  | cons {a:Addr} {o:Obj} {xs:Array Value} {n:Nat} {x:Int} {ns:List Int} {vs:List Value} {nss:List (List Int)} (ho:h.get? a=some o) (hc:o.cls=.type "tuple") (hd:o.data=.seq xs n) (hi:IntsAre xs.toList (x :: ns)) (r:TupsAre h vs nss):TupsAre h (.ref a :: vs) ((x :: ns) :: nss)
theorem TupsAre.keep {h h':Heap} (k:∀ b o,h.get? b=some o->h'.get? b=some o):∀ {vs:List Value} {nss:List (List Int)},TupsAre h vs nss->TupsAre h' vs nss
  | _,_,.nil=>.nil
  | _,_,.cons ho hc hd hi r=>.cons (k _ _ ho) hc hd hi (r.keep k)
theorem TupsAre.keepT {h h':Heap} (k:∀ b o,o.cls=.type "tuple" -> h.get? b=some o->h'.get? b=some o):∀ {vs:List Value} {nss:List (List Int)},TupsAre h vs nss->TupsAre h' vs nss
  | _,_,.nil=>.nil
  | _,_,.cons ho hc hd hi r=>.cons (k _ _ hc ho) hc hd hi (r.keepT k)
theorem TupsAre.length {h:Heap}:∀ {vs:List Value} {nss:List (List Int)},TupsAre h vs nss->vs.length=nss.length
  | _,_,.nil=>rfl
  | _,_,.cons _ _ _ _ r=>by rw [List.length_cons,List.length_cons,r.length]
theorem TupsAre.at {h:Heap}:∀ {vs:List Value} {nss:List (List Int)},TupsAre h vs nss->∀ i,i < vs.length->∃ a o xs n,vs.getD i Value.none=.ref a/\h.get? a=some o/\o.data=.seq xs n/\IntsAre xs.toList (nss.getD i [])
  | _,_,.nil,i,hi=>by simp at hi
  | _,_,.cons ho hc hd hi r,0,_=>⟨_,_,_,_,rfl,ho,hd,hi⟩
  | _,_,.cons ho hc hd hi r,i + 1,hl=>by
    obtain ⟨a,o,xs,n,h1,h2,h3,h4⟩:=r.at i (by simpa using hl)
    exact ⟨a,o,xs,n,by simpa using h1,h2,h3,by simpa using h4⟩
theorem TupsAre.firsts {M:Model} {h:Heap}:∀ {vs:List Value} {nss:List (List Int)},TupsAre h vs nss->∃ fs,KatTups h vs fs/\fs.length=vs.length/\∀ v ∈ fs,Looks M h (typeOf v) (.type "int")
  | _,_,.nil=>⟨[],.nil,rfl,fun v hv=>by cases hv⟩
  | _,_,.cons (xs:=xs) (x:=x0) ho hc hd hi r=>by
    obtain ⟨fs,h1,h2,h3⟩:=r.firsts (M:=M)
    have hi':=hi
    generalize hl:xs.toList=l at hi'
    cases hi' with
    | cons _ t hr=>
      refine ⟨.int x0 t :: fs,.cons ho hc hd ?_ h1,by simp [h2],fun v hv=>?_⟩
      · rw [<- Array.getElem?_toList,hl]; rfl
      · rcases List.mem_cons.mp hv with rfl | hv
        · exact Looks.of_pure rfl
        · exact h3 v hv
def lexL:List Int->List Int->Bool
  | [],[]=>false
  | [],_ :: _=>true
  | _ :: _,[]=>false
  | a :: as,b :: bs=>if a=b then lexL as bs else decide (a < b)
theorem lex_run (b:Bool) {Q:Bool->Shared->Prop}:∀ {xs ys:List Value} {ns ms:List Int} (d:Bool) (i:Nat),IntsAre xs ns->IntsAre ys ms->d=decide (xs.length < ys.length)->Q (lexL ns ms) s->KatLex prog w A b d Q (xs.zip ys) i s
  | _,_,_,_,d,i,.nil,.nil,hd,q=>by
    have:d=false:=by rw [hd]; simp
    subst this
    exact q
  | _,_,_,_,d,i,.nil,.cons _ _ _,hd,q=>by
    have:d=true:=by rw [hd]; simp
    subst this
    exact q
  | _,_,_,_,d,i,.cons _ _ _,.nil,hd,q=>by
    have:d=false:=by rw [hd]; simp
    subst this
    exact q
  | _,_,_,_,d,i,.cons x t hr,.cons y u hq,hd,q=>by
    rw [List.zip_cons_cons]
    refine kat_cons (wpAny_eqBool_int ?_)
    by_cases z:x=y
    · subst z
      rw [beq_self_eq_true]
      refine kat_yes (lex_run b d (i + 1) hr hq (by rw [hd]; simp) ?_)
      rw [lexL,if_pos rfl] at q
      exact q
    · rw [beq_eq_false_iff_ne.mpr z]
      refine kat_no ?_
      rw [lexL,if_neg z] at q
      cases b && i == 0 with
      | true=>exact oneLt_int q
      | false=>exact kat_one _ _ (lt_int q)
def rankL (nss:List (List Int)) (i:Nat):Nat:=(nss.filter fun ms=>lexL ms (nss.getD i [])).length
theorem lexL_irr:∀ a:List Int,lexL a a=false
  | []=>rfl
  | a :: as=>by rw [lexL,if_pos rfl]; exact lexL_irr as
theorem lexL_trans:∀ {a b c:List Int},lexL a b=true->lexL b c=true->lexL a c=true
  | [],[],_,h,_=>by cases h
  | [],_ :: _,[],_,h=>by cases h
  | [],_ :: _,_ :: _,_,_=>rfl
  | _ :: _,[],_,h,_=>by cases h
  | _ :: _,_ :: _,[],_,h=>by cases h
  | a :: as,b :: bs,c :: cs,h1,h2=>by
    rw [lexL] at h1 h2 ⊢
    by_cases z1:a=b
    · subst z1
      rw [if_pos rfl] at h1
      by_cases z2:a=c
      · subst z2
        rw [if_pos rfl] at h2 ⊢
        exact lexL_trans h1 h2
      · rw [if_neg z2] at h2 ⊢; exact h2
    · rw [if_neg z1] at h1
      have h1':a < b:=by simpa using h1
      by_cases z2:b=c
      · subst z2
        rw [if_neg z1]; exact h1
      · rw [if_neg z2] at h2
        have h2':b < c:=by simpa using h2
        rw [if_neg (by omega)]
        simp; omega
theorem lexL_tot:∀ {a b:List Int},lexL a b=false->lexL b a=false->a=b
  | [],[],_,_=>rfl
  | [],_ :: _,h,_=>by cases h
  | _ :: _,[],_,h=>by cases h
  | a :: as,b :: bs,h1,h2=>by
    rw [lexL] at h1 h2
    by_cases z:a=b
    · subst z
      rw [if_pos rfl] at h1 h2
      rw [lexL_tot h1 h2]
    · rw [if_neg z] at h1
      rw [if_neg (fun e=>z e.symm)] at h2
      have h1':¬ a < b:=by simpa using h1
      have h2':¬ b < a:=by simpa using h2
      exact absurd (show a=b by omega) z
theorem filter_len_lt {α:Type} {p q:α->Bool}:∀ {l:List α},(∀ x ∈ l,p x=true->q x=true)->(∃ x ∈ l,p x=false/\q x=true)->(l.filter p).length < (l.filter q).length
  | [],_,h=>by obtain ⟨_,h,_⟩:=h; cases h
  | x :: l,h,hx=>by
    have hle:(l.filter p).length<=(l.filter q).length:=by
      clear hx
      induction l with
      | nil=>exact Nat.le_refl _
      | cons y l ih=>
        have ih:=ih fun z hz=>h z (by rcases List.mem_cons.mp hz with rfl | hz <;> simp [*])
        have hy:=h y (by simp)
        rw [List.filter_cons,List.filter_cons]
        by_cases a:p y=true
        · rw [if_pos a,if_pos (hy a)]; simp; exact ih
        · rw [if_neg a]
          split
          · simp; omega
          · exact ih
    rw [List.filter_cons,List.filter_cons]
    obtain ⟨y,hy,h1,h2⟩:=hx
    rcases List.mem_cons.mp hy with rfl | hy
    · rw [h1,h2]; simp; omega
    · have ih:=filter_len_lt (fun z hz=>h z (List.mem_cons_of_mem _ hz)) ⟨y,hy,h1,h2⟩
      by_cases a:p x=true
      · rw [if_pos a,if_pos (h x (by simp) a)]; simp; exact ih
      · rw [if_neg a]
        split
        · simp; omega
        · exact ih
theorem rank_lt {nss:List (List Int)} {i j:Nat} (hi:i < nss.length) (hj:j < nss.length):cR (rankL nss) i j=lexL (nss.getD i []) (nss.getD j []):=by
  have mem:∀ k,k < nss.length->nss.getD k [] ∈ nss:=fun k hk=>by
    rw [List.getD_eq_getElem?_getD,List.getElem?_eq_getElem hk]; exact List.getElem_mem hk
  unfold cR
  have key:∀ {i j:Nat},i < nss.length->j < nss.length->lexL (nss.getD i []) (nss.getD j [])=true->rankL nss i < rankL nss j:=fun {i j} hi hj h=>
    filter_len_lt (fun x _ hx=>lexL_trans hx h) ⟨nss.getD i [],mem i hi,lexL_irr _,h⟩
  cases z:lexL (nss.getD i []) (nss.getD j []) with
  | true=>exact decide_eq_true (key hi hj z)
  | false=>
    refine decide_eq_false ?_
    cases z2:lexL (nss.getD j []) (nss.getD i []) with
    | true=>have:=key hj hi z2; omega
    | false=>
      have e:=lexL_tot z z2
      unfold rankL
      rw [e]
      exact Nat.lt_irrefl _
theorem sort_tups {a:Addr} {vs:List Value} {nss:List (List Int)} {n:Nat} {P:PySem.Fin->Shared->Prop} (ho:s.heap.get? a=some (seqObj "list" vs.toArray n)) (hT:TupsAre s.heap vs nss) (h64:vs.length < 64)
    (h:∀ (p:List Nat) (h':Heap) (k:Nat),p.Perm (List.range vs.length)->(∀ i,1<=i->i < vs.length->lexL (nss.getD (p.getD i 0) []) (nss.getD (p.getD (i - 1) 0) [])=false)->h'.get? a=some (seqObj "list" (List.toArray (p.map fun i=>vs.getD i Value.none)) k)->(∀ b o,b ≠ a->s.heap.get? b=some o->h'.get? b=some o)->P (.done (.ret .none)) { s with heap:=h' }) :
    wpAny (model prog w) A (Builtin.«list.sort» ⟨[.ref a],[]⟩) P E s:=by
  have ha:a < s.heap.objs.size:=Heap.lt_size ho
  obtain ⟨e1,ho1⟩:∃ e1,(s.heap.update a (Obj.mapSeq fun _=>(#[]:Array Value))).get? a=some (seqObj "list" #[] e1):=⟨_,get?_update_seq ho fun _=>#[]⟩
  have keep3:∀ b o,b ≠ a->s.heap.get? b=some o->(((s.heap.update a (Obj.mapSeq fun _=>(#[]:Array Value))).push (seqObj "tuple" vs.toArray 0)).push (seqObj "list" #[] 0)).get? b=some o:=fun b o hb e=>
    Heap.get?_push_of_some _ (Heap.get?_push_of_some _ (by rw [Heap.get?_update_ne _ _ _ _ hb]; exact e))
  have ho3:(((s.heap.update a (Obj.mapSeq fun _=>(#[]:Array Value))).push (seqObj "tuple" vs.toArray 0)).push (seqObj "list" #[] 0)).get? a=some (seqObj "list" #[] e1):=Heap.get?_push_of_some _ (Heap.get?_push_of_some _ ho1)
  rw [list_sort_plain]
  refine wpAny_bind (listItems_at ho rfl ?_)
  refine wpAny_bind (listUpdate_at ho rfl ?_ (by rw [List.size_toArray,sizeLine_eq]; omega) (Nat.zero_le _))
  refine wpAny_bind (seqEpoch_at ho1 rfl ?_)
  refine wpAny_bind (wpAny_newTuple ?_ (by show vs.length<=_; rw [sizeLine_eq]; omega))
  refine wpAny_bind (wpAny_newList ?_ (Nat.zero_le _))
  refine wpAny_holding ?_
  show wpAny (model prog w) A _ P E { s with heap:=((s.heap.update a (Obj.mapSeq fun _=>(#[]:Array Value))).push (seqObj "tuple" vs.toArray 0)).push (seqObj "list" #[] 0) }
  dsimp only
  generalize hH:((s.heap.update a (Obj.mapSeq fun _=>(#[]:Array Value))).push (seqObj "tuple" vs.toArray 0)).push (seqObj "list" #[] 0)=H3 at *
  have fin:∀ (st:SortSt) (p:List Nat),p.Perm (List.range vs.length)->(arrOf st).map (·.2)=List.toArray (p.map fun i=>vs.getD i Value.none)->failedOf st=none->(∀ i,1<=i->i < vs.length->lexL (nss.getD (p.getD i 0) []) (nss.getD (p.getD (i - 1) 0) [])=false) ->
      wpAny (model prog w) A (do
        let sorted:=(arrOf st).map (·.2)
        let touched:=(<- seqEpoch a) != e1
        Builtin.List.listUpdate (.ref a) fun _=>sorted
        if let some e:=failedOf st then rule "list.sort.comparison-raised"; throw e
        if touched then rule "list.sort.modified"; raiseError "ValueError" "list modified during sort"
        ret .none) P E { s with heap:=H3 }:=fun st p hp ha2 hf hs=>by
    dsimp only
    have hl:(List.toArray (p.map fun i=>vs.getD i Value.none)).size=vs.length:=by rw [List.size_toArray,List.length_map,hp.length_eq,List.length_range]
    obtain ⟨c2,hc2⟩:∃ c2,(H3.update a (Obj.mapSeq fun _=>List.toArray (p.map fun i=>vs.getD i Value.none))).get? a=some (seqObj "list" (List.toArray (p.map fun i=>vs.getD i Value.none)) c2):=⟨_,get?_update_seq ho3 fun _=>List.toArray (p.map fun i=>vs.getD i Value.none)⟩
    rw [ha2,hf]
    refine wpAny_bind (seqEpoch_at ho3 rfl ?_)
    refine wpAny_bind (listUpdate_at ho3 rfl ?_ (Nat.zero_le _) (Nat.le_trans (Nat.le_of_eq hl) (by rw [sizeLine_eq]; omega)))
    simp only [bne_self_eq_false,Bool.false_eq_true,if_false]
    exact wpAny_pure (h p _ c2 hp hs hc2 fun b o hb e=>by rw [Heap.get?_update_ne _ _ _ _ hb]; exact keep3 b o hb e)
  by_cases h2:vs.toArray.size < 2
  · rw [if_pos h2,if_pos h2]
    refine wpAny_bind (wpAny_pure ?_)
    rw [StateT.run_pure]
    refine wpAny_bind (wpAny_pure ?_)
    refine fin (SortSt.mk' general' (vs.toArray.zip vs.toArray) #[] 7 none) (List.range vs.length) (List.Perm.refl _) ?_ rfl (fun i g1 g2=>?_)
    · show (vs.toArray.zip vs.toArray).map (·.2)=_
      apply Array.toList_inj.mp
      apply List.ext_getElem?
      intro i
      by_cases z:i < vs.length
      · simp [z]
      · simp [z]
    · rw [List.size_toArray] at h2; omega
  · rw [if_neg h2,if_neg h2]
    rw [List.size_toArray] at h2
    have hT3:TupsAre H3 vs nss:=hT.keepT fun b o hc e=>keep3 b o (fun z=>by
      rw [z,ho] at e
      have e:=Option.some.inj e
      rw [<- e] at hc
      exact absurd (show Value.type "list" = .type "tuple" from hc) (by decide)) e
    obtain ⟨fs,k1,k2,k3⟩:=hT3.firsts (M:=model prog w)
    refine wpAny_bind (kat_kind (s:={ s with heap:=H3 }) (T:=.type "int") k1 (by omega) k3 (by decide) ?_)
    have hask:∀ i j (C:Bool->Shared->Prop),i < vs.length->j < vs.length->C (cR (rankL nss) i j) { s with heap:=H3 }->kas_ask prog w A (tuples' (Value.type "int" != Value.type "tuple")) vs i j C { s with heap:=H3 }:=fun i j C hi hj q=>by
      obtain ⟨ai,oi,xi,ni,e1,e2,e3,e4⟩:=hT3.at i hi
      obtain ⟨aj,oj,xj,nj,f1,f2,f3,f4⟩:=hT3.at j hj
      rw [rank_lt (by rw [<- hT.length]; exact hi) (by rw [<- hT.length]; exact hj)] at q
      unfold kas_ask
      rw [e1,f1]
      exact kat_lt e2 e3 f2 f3 (lex_run _ _ 0 e4 f4 (by simp) q)
    have hev:=sort_ev (r:=rankL nss) (n:=vs.length) (by omega)
    refine wpAny_bind (wpAny_mono (kat_run (vs:=vs) (ks:=vs) (Q:=fun st' s'=>s'={ s with heap:=H3 }/\arrOf st'=(evT (cR (rankL nss)) (kas_sort vs.length)).map (kas_item (vs.toArray.zip vs.toArray))/\failedOf st'=none)
      (G:=fun p s'=>s'={ s with heap:=H3 }/\p=evT (cR (rankL nss)) (kas_sort vs.length)) rfl (by omega) h64 (fun p' st' s' a1 a2 a3 a4=>⟨a4.1,by rw [<- a4.2]; exact a2,a3⟩) (kasWp_ev hask _ (fun _=>True) _ (asks_sort (by omega)) ⟨rfl,rfl⟩)) ?_ fun _ _ e=>e)
    rintro ⟨⟨⟩,st'⟩ s' ⟨rfl,har,hf⟩
    have hpl:(evT (cR (rankL nss)) (kas_sort vs.length)).toList.Perm (List.range vs.length):=by
      have:=Array.perm_iff_toList_perm.mp hev.2
      simpa using this
    refine fin st' _ hpl (kat_snds rfl har) hf fun i g1 g2=>?_
    have hr:=hev.1 i g1 g2
    have hin:∀ k,(evT (cR (rankL nss)) (kas_sort vs.length)).toList.getD k 0 < vs.length:=fun k=>by
      have hal:AL vs.length (evT (cR (rankL nss)) (kas_sort vs.length)):=AL.perm (p:=List.toArray (List.range vs.length)) ⟨by omega,fun x hx=>by simpa using hx⟩ hev.2
      have:=hal.get k
      rw [Array.getD_eq_getD_getElem?,<- Array.getElem?_toList] at this
      rw [List.getD_eq_getElem?_getD]; exact this
    have hg:∀ k,(evT (cR (rankL nss)) (kas_sort vs.length)).getD k 0=(evT (cR (rankL nss)) (kas_sort vs.length)).toList.getD k 0:=fun k=>by
      rw [Array.getD_eq_getD_getElem?,<- Array.getElem?_toList,List.getD_eq_getElem?_getD]
    unfold rk at hr
    rw [hg,hg] at hr
    have:=rank_lt (nss:=nss) (i:=(evT (cR (rankL nss)) (kas_sort vs.length)).toList.getD i 0) (j:=(evT (cR (rankL nss)) (kas_sort vs.length)).toList.getD (i - 1) 0) (by rw [<- hT.length]; exact hin _) (by rw [<- hT.length]; exact hin _)
    rw [<- this]
    exact decide_eq_false (Nat.not_lt.mpr hr)
theorem sorted_tups {l:Addr} {vs:List Value} {nss:List (List Int)} {Q:Value->Shared->Prop} (hl:s.heap.IsList l vs.toArray) (hT:TupsAre s.heap vs nss) (h64:vs.length < 64)
    (h:∀ (p:List Nat) (h':Heap) (D k:Nat),p.Perm (List.range vs.length)->(∀ i,1<=i->i < vs.length->lexL (nss.getD (p.getD i 0) []) (nss.getD (p.getD (i - 1) 0) [])=false)->s.heap.objs.size<=D->h'.get? D=some (seqObj "list" (List.toArray (p.map fun i=>vs.getD i Value.none)) k)->(∀ b o,s.heap.get? b=some o->h'.get? b=some o)->Q (.ref D) { s with heap:=h' }) :
    wpAny (model prog w) A (call (.builtin "sorted") [.ref l]) Q E s:=by
  refine Calls.call_function_entry kind_sorted plain_sorted entry_sorted (args_sorted1 _) ?_
  unfold Builtin.«sorted»
  refine wpAny_bind (m:=checkCount "sorted" 1 1 _) (wpAny_pure ?_)
  refine wpAny_bind (collect_list hl ?_ (by rw [sizeLine_eq]; omega))
  refine wpAny_bind (wpAny_newList ?_ (by rw [sizeLine_eq]; omega))
  have hsz:((s.heap.push (seqObj "list" #[] 0)).update s.heap.objs.size (Obj.mapSeq (· ++ vs.toArray))).objs.size=s.heap.objs.size + 1:=by
    rw [Heap.size_update,size_push']
  have hoL:(((s.heap.push (seqObj "list" #[] 0)).update s.heap.objs.size (Obj.mapSeq (· ++ vs.toArray))).push (seqObj "list" vs.toArray 0)).get? (s.heap.objs.size + 1)=some (seqObj "list" vs.toArray 0):=by
    rw [<- hsz]; exact Heap.get?_push_size _ rfl
  have keep:∀ b o,s.heap.get? b=some o->(((s.heap.push (seqObj "list" #[] 0)).update s.heap.objs.size (Obj.mapSeq (· ++ vs.toArray))).push (seqObj "list" vs.toArray 0)).get? b=some o:=fun b o q=>by
    have hlt:b < s.heap.objs.size:=Heap.lt_size q
    rw [Heap.get?_push_ne _ _ _ (by rw [hsz]; exact Nat.ne_of_lt (Nat.lt_succ_of_lt hlt)),Heap.get?_update_ne _ _ _ _ (Nat.ne_of_lt hlt),Heap.get?_push_ne _ _ _ (Nat.ne_of_lt hlt)]
    exact q
  show wpAny _ _ _ _ _ { s with heap:=((s.heap.push (seqObj "list" #[] 0)).update s.heap.objs.size (Obj.mapSeq (· ++ vs.toArray))).push (seqObj "list" vs.toArray 0) }
  rw [hsz]
  refine wpAny_bind (wpAny_holding (wpAny_call_entry slot_list_sort ⟨_,hoL,rfl⟩ entry_list_sort ?body (args_list_sort _)))
  case body=>
    refine sort_tups (s:={ s with heap:=((s.heap.push (seqObj "list" #[] 0)).update s.heap.objs.size (Obj.mapSeq (· ++ vs.toArray))).push (seqObj "list" vs.toArray 0) }) hoL (hT.keep keep) h64 fun p h' k a1 a2 a3 a4=>?_
    exact ⟨_,rfl,wpAny_pure ⟨_,rfl,h p h' _ k a1 a2 (Nat.le_succ _) a3 fun b o e=>a4 b o (Nat.ne_of_lt (Nat.lt_succ_of_lt (Heap.lt_size e))) (keep b o e)⟩⟩
end
end L2
namespace L2
open PySem PySem.Spec PyProof.Rows
def insL (a:List Int):List (List Int)->List (List Int)
  | []=>[a]
  | b :: r=>if lexL b a=true then b :: insL a r else a :: b :: r
def sortL:List (List Int)->List (List Int)
  | []=>[]
  | a :: r=>insL a (sortL r)
def leL (a b:List Int):Prop:=lexL b a=false
theorem leL_iff (a b:List Int):leL a b <-> a=b\/lexL a b=true:=by
  unfold leL
  constructor
  · intro h
    cases z:lexL a b with
    | true=>exact .inr rfl
    | false=>exact .inl (lexL_tot z h)
  · rintro (rfl | h)
    · exact lexL_irr a
    · cases z:lexL b a with
      | false=>rfl
      | true=>have:=lexL_trans h z; rw [lexL_irr] at this; cases this
theorem leL_trans {a b c:List Int} (h1:leL a b) (h2:leL b c):leL a c:=by
  rw [leL_iff] at *
  rcases h1 with rfl | h1
  · exact h2
  · rcases h2 with rfl | h2
    · exact .inr h1
    · exact .inr (lexL_trans h1 h2)
theorem leL_anti {a b:List Int} (h1:leL a b) (h2:leL b a):a=b:=lexL_tot h2 h1
theorem insL_perm (a:List Int):∀ l,(insL a l).Perm (a :: l)
  | []=>List.Perm.refl _
  | b :: r=>by
    rw [insL]
    split
    · exact ((insL_perm a r).cons b).trans (List.Perm.swap a b r)
    · exact List.Perm.refl _
theorem sortL_perm:∀ l,(sortL l).Perm l
  | []=>List.Perm.refl _
  | a :: r=>(insL_perm a (sortL r)).trans ((sortL_perm r).cons a)
theorem insL_sorted {a:List Int}:∀ {l:List (List Int)},l.Pairwise leL->(insL a l).Pairwise leL
  | [],_=>by rw [insL]; exact List.pairwise_singleton _ _
  | b :: r,h=>by
    obtain ⟨h1,h2⟩:=List.pairwise_cons.mp h
    rw [insL]
    split
    · rename_i q
      refine List.pairwise_cons.mpr ⟨fun x hx=>?_,insL_sorted h2⟩
      rcases List.mem_cons.mp ((insL_perm a r).mem_iff.mp hx) with rfl | hx
      · exact (leL_iff b x).mpr (.inr q)
      · exact h1 x hx
    · rename_i q
      have q':leL a b:=by unfold leL; simpa using q
      refine List.pairwise_cons.mpr ⟨fun x hx=>?_,h⟩
      rcases List.mem_cons.mp hx with rfl | hx
      · exact q'
      · exact leL_trans q' (h1 x hx)
theorem sortL_sorted:∀ l,(sortL l).Pairwise leL
  | []=>List.Pairwise.nil
  | a :: r=>insL_sorted (sortL_sorted r)
theorem sort_uniq:∀ {a b:List (List Int)},a.Perm b->a.Pairwise leL->b.Pairwise leL->a=b
  | [],b,h,_,_=>(List.nil_perm.mp h).symm
  | x :: a,[],h,_,_=>absurd (List.perm_nil.mp h) (by simp)
  | x :: a,y :: b,h,ha,hb=>by
    obtain ⟨a1,a2⟩:=List.pairwise_cons.mp ha
    obtain ⟨b1,b2⟩:=List.pairwise_cons.mp hb
    have e:x=y:=by
      rcases List.mem_cons.mp (h.mem_iff.mp (List.mem_cons_self (a:=x) (l:=a))) with e | hx
      · exact e
      · rcases List.mem_cons.mp (h.mem_iff.mpr (List.mem_cons_self (a:=y) (l:=b))) with e | hy
        · exact e.symm
        · exact leL_anti (a1 y hy) (b1 x hx)
    subst e
    rw [sort_uniq (List.Perm.cons_inv h) a2 b2]
theorem pair_of_chain {l:List (List Int)} (h:∀ i,1<=i->i < l.length->lexL (l.getD i []) (l.getD (i - 1) [])=false):l.Pairwise leL:=by
  rw [List.pairwise_iff_getElem]
  have g:∀ k (hk:k < l.length),l.getD k []=l[k]:=fun k hk=>by rw [List.getD_eq_getElem?_getD,List.getElem?_eq_getElem hk]; rfl
  have key:∀ d i (hi:i + d < l.length),leL (l.getD i []) (l.getD (i + d) []):=by
    intro d
    induction d with
    | zero=>intro i hi; exact (leL_iff _ _).mpr (.inl rfl)
    | succ d ih=>
      intro i hi
      have h1:=ih i (by omega)
      have h2:=h (i + d + 1) (by omega) (by omega)
      rw [Nat.add_sub_cancel] at h2
      exact leL_trans h1 h2
  intro i j hi hj hij
  have:=key (j - i) i (by omega)
  rw [show i + (j - i)=j by omega,g i hi,g j hj] at this
  exact this
theorem sort_perm {nss:List (List Int)} {p:List Nat} (hp:p.Perm (List.range nss.length)) (h:∀ i,1<=i->i < nss.length->lexL (nss.getD (p.getD i 0) []) (nss.getD (p.getD (i - 1) 0) [])=false):p.map (fun i=>nss.getD i [])=sortL nss:=by
  have hl:p.length=nss.length:=by rw [hp.length_eq,List.length_range]
  have e1:(List.range nss.length).map (fun i=>nss.getD i [])=nss:=by
    apply List.ext_getElem?
    intro i
    by_cases z:i < nss.length
    · simp [z]
    · simp [z]
  have pm:(p.map fun i=>nss.getD i []).Perm nss:=by
    have:=hp.map (fun i=>nss.getD i [])
    rwa [e1] at this
  have gd:∀ k,k < p.length->(p.map fun i=>nss.getD i []).getD k []=nss.getD (p.getD k 0) []:=fun k hk=>by
    rw [List.getD_eq_getElem?_getD,List.getElem?_map,List.getElem?_eq_getElem hk,List.getD_eq_getElem?_getD (l:=p),List.getElem?_eq_getElem hk]
    rfl
  refine sort_uniq (pm.trans (sortL_perm nss).symm) (pair_of_chain fun i g1 g2=>?_) (sortL_sorted nss)
  rw [List.length_map] at g2
  rw [gd i g2,gd (i - 1) (by omega)]
  exact h i g1 (by omega)
theorem tups_of {P:Program} {w:World} {H:Hp} {h:Heap} (ok:HOk P w H h):∀ {nss:List (List Int)} {vs:List V} {its:List Value},Paired (fun (v:V) (ns:List Int)=>ns ≠ []/\∃ a,v=.ref a/\H a=some (.tup (ns.map V.int))) vs nss->Vals vs its->TupsAre h its nss
  | [],_,_,.nil,.nil=>.nil
  | [] :: _,v :: vs,u :: us,.cons ⟨z,_⟩ t,.cons ru tu=>absurd rfl z
  | (x :: ns) :: nss,v :: vs,u :: us,.cons ⟨_,a,ea,ha⟩ t,.cons ru tu=>by
    have r:=tups_of ok t tu
    subst ea
    cases ru
    obtain ⟨_,jts,rj,o,ho,hc,n,hd⟩:=ok a _ ha
    exact .cons ho hc hd (by simpa using intsAre_of rj) r
theorem call_sortedT {X:Cx}:CallR X (.builtin "sorted") (fun xs H Q=>∃ p vs,∃ nss:List (List Int),xs=[.ref p]/\SqL X.K H p vs/\vs.length < 64/\Paired (fun (v:V) (ns:List Int)=>ns ≠ []/\∃ a,v=.ref a/\H a=some (.tup (ns.map V.int))) vs nss /\
    ∀ d (pp:List Nat),H d=none->pp.Perm (List.range vs.length)->pp.map (fun i=>nss.getD i [])=sortL nss->Q (.ref d) (upd H d (.lst (pp.map fun i=>vs.getD i .non)))):=by
  intro pins s σ H xs us Q I r h
  obtain ⟨p,vs,nss,rfl,hq,h64,hp,q⟩:=h
  obtain ⟨u,rfl,rx⟩:=vals1 r
  cases rx
  obtain ⟨its,r',pl,hz⟩:=I.list hq
  have hlen:=r'.length
  have T:=tups_of I.hok hp r'
  refine sorted_tups pl.isList T (by omega) fun pp h' D k a1 a2 a3 a4 a5=>?_
  have hln:its.length=nss.length:=T.length
  have e:=sort_perm (nss:=nss) (p:=pp) (by rw [<- hln]; exact a1) (fun i g1 g2=>a2 i g1 (by omega))
  have hpl:pp.length=its.length:=by rw [a1.length_eq,List.length_range]
  have hv:Vals (pp.map fun i=>vs.getD i .non) (pp.map fun i=>its.getD i Value.none):=by
    have key:∀ l:List Nat,(∀ x ∈ l,x < vs.length)->Vals (l.map fun i=>vs.getD i .non) (l.map fun i=>its.getD i Value.none):=by
      intro l
      induction l with
      | nil=>intro _; exact .nil
      | cons x l ih=>
        intro hl
        have hx:=hl x (by simp)
        obtain ⟨u,hu,ru⟩:=r'.get (List.getElem?_eq_getElem hx)
        refine .cons ?_ (ih fun y hy=>hl y (List.mem_cons_of_mem _ hy))
        show RelV (vs.getD x V.non) (its.getD x Value.none)
        rw [List.getD_eq_getElem?_getD,List.getElem?_eq_getElem hx,List.getD_eq_getElem?_getD,hu]
        exact ru
    exact key pp fun x hx=>by have:=a1.mem_iff.mp hx; rw [hlen]; simpa using this
  exact ⟨.ref D,_,I.laid (t':=s.toks) (o:=.lst (pp.map fun i=>vs.getD i .non)) a5 a3 ⟨by rw [List.length_map]; omega,_,k,hv,a4⟩,rfl,q D pp (I.hok.fresh a3) (by rw [hlen]; exact a1) e⟩
end L2
namespace L2
open PySem PySem.Spec PyProof.Rows
section
variable {X:Cx}
end
end L2
namespace L2
open PySem PySem.Spec PyProof.Rows
def RawD (h:Heap) (a:Addr) (es:Array DictEntry) (ep:Nat):Prop:=∃ o,h.get? a=some o/\o.ExactDict/\o.data=.dict es ep
section
variable {prog:Program} {w:World} {A:Around} {E:Value->Shared->Prop} {s:Shared}
theorem RawD.typeIs {a:Addr} {es:Array DictEntry} {ep:Nat} (h:RawD s.heap a es ep):s.TypeIs (.ref a) "dict" := let ⟨o,e,x,_⟩:=h; ⟨o,e,x.1⟩
theorem RawD.obj {h:Heap} {a:Addr} {es:Array DictEntry} {ep:Nat} (x:RawD h a es ep):h.get? a=some { cls:=.type "dict",dict:=none,data:=.dict es ep,slots:=#[] }:=by
  obtain ⟨⟨c,dct,dat,sl⟩,ho,⟨h1,h2,h3⟩,h4⟩:=x
  simp only at h1 h2 h3 h4
  subst h1 h2 h3 h4
  exact ho
theorem raw_iter {d:Addr} {es:Array DictEntry} {ep:Nat} {Q:Value->Shared->Prop} (hd:(d == sysModules)=false) (hm:RawD s.heap d es ep)
    (hQ:Q (.ref s.heap.objs.size) { s with heap:=s.heap.push { cls:=.type "dict_keyiterator",data:=.fields #[.ref d,.int 0 0,.int es.size 0,.int ep 0] } }) :
    wpAny (model prog w) A (pyIter (.ref d)) Q E s:=by
  have hT:=hm.typeIs
  have ho:=hm.obj
  obtain ⟨hp,g,dr,tk,os⟩:=s
  refine wpAny_pyIter_slot hT PySem.F.slot_dict_iter (wpAny_call_entry PySem.F.slot_dict_iter hT PySem.F.entry_dict_iter ?_ (PySem.F.args_dict_iter_1 _))
  unfold Builtin.«dict.__iter__» Builtin.Dict.dictSlotNone
  repeat (any_goals (first | assumption | wp_step))
  refine ⟨_,rfl, "dict_keyiterator",_,⟨_,Heap.get?_push_size _ rfl,rfl⟩,PySem.F.slot_dict_keyiterator_next.lookup,hQ⟩
theorem key_owns:Builtin.Dict_items.ownsTuple ((Manifest.find? "dict_keyiterator").elim "dict_keyiterator" fun x=>x.tpName)=false:=by decide +kernel
theorem raw_item {it d:Addr} {i ep:Nat} {es:Array DictEntry} {e:DictEntry} {Q:Option Value->Shared->Prop} (hit:s.heap.IsKeyIter it d i es.size ep) (hm:RawD s.heap d es ep) (hx:es[i]?=some e)
    (hQ:∀ h',h'.IsKeyIter it d (i + 1) es.size ep->Heap.SameBut it s.heap h'->Q (some e.key) { s with heap:=h' }) :
    wpAny (model prog w) A (pyNext (.ref it)) Q E s:=by
  have hT:=hit.typeIs
  have ho:=hm.obj
  obtain ⟨⟨c,dct,dat,sl⟩,hoi,hci,hdi⟩:=hit
  simp only at hci hdi
  subst hci hdi
  obtain ⟨hp,g,dr,tk,os⟩:=s
  unfold pyNext
  refine wpAny_bind (wpAny_attempt (wpAny_callSpecial?_slot (name:=Str.ofString "__next__") hT PySem.F.slot_dict_keyiterator_next (wpAny_call_entry PySem.F.slot_dict_keyiterator_next hT PySem.F.entry_dict_keyiterator_next ?_ (PySem.F.args_dict_keyiterator_next_1 _))))
  repeat (any_goals (first | assumption | wp_step))
  simp only [key_owns,Bool.false_eq_true,if_false]
  simp only [show ¬ ((i:Int) < 0) by omega,if_false,Int.toNat_natCast,hx]
  repeat (any_goals (first | assumption | wp_step))
  simp only [key_owns,Bool.false_eq_true,if_false]
  rw [if_neg (show ¬ ((_:Bool)=true) by decide +kernel)]
  refine ⟨_,rfl,wpAny_pure (hQ _ ⟨_,Heap.get?_update_self _ hoi rfl,rfl,?_⟩ (Heap.SameBut.update ..))⟩
  simp [Obj.mapFields,rawInt]
theorem raw_end {it d:Addr} {i ep:Nat} {es:Array DictEntry} {Q:Option Value->Shared->Prop} (hh:A.handled=none) (hit:s.heap.IsKeyIter it d i es.size ep) (hm:RawD s.heap d es ep) (hx:es[i]?=none)
    (hQ:∀ h',Heap.ExtBut it s.heap h'->Q none { s with heap:=h' }) :
    wpAny (model prog w) A (pyNext (.ref it)) Q E s:=by
  have hT:=hit.typeIs
  have ho:=hm.obj
  obtain ⟨⟨c,dct,dat,sl⟩,hoi,hci,hdi⟩:=hit
  simp only at hci hdi
  subst hci hdi
  obtain ⟨hp,g,dr,tk,os⟩:=s
  unfold pyNext
  refine wpAny_bind (wpAny_attempt (wpAny_callSpecial?_slot (name:=Str.ofString "__next__") hT PySem.F.slot_dict_keyiterator_next (wpAny_call_entry PySem.F.slot_dict_keyiterator_next hT PySem.F.entry_dict_keyiterator_next ?_ (PySem.F.args_dict_keyiterator_next_1 _))))
  repeat (any_goals (first | assumption | wp_step))
  simp only [key_owns,Bool.false_eq_true,if_false]
  simp only [show ¬ ((i:Int) < 0) by omega,if_false,Int.toNat_natCast,hx]
  have hsub:=isSubtype_stop
  repeat (any_goals (first | assumption | wp_step))
  unfold raiseNew
  refine wpAny_bind (wpAny_handled ?_)
  rw [show A.in1.handled=none from hh]
  refine wpAny_bind (wpAny_pure (wpAny_throw ?_))
  refine wpAny_bind (wpAny_isInstance (T := "StopIteration") (b:=true) ⟨_,Heap.get?_push_size _ rfl,rfl⟩ isSubtype_stop ?_)
  exact wpAny_pure (hQ _ (((Heap.SameBut.update ..).extBut.push _).push _))
theorem RawD.at {h h':Heap} {a:Addr} {es:Array DictEntry} {ep:Nat} (x:RawD h a es ep) (k:∀ o,h.get? a=some o->h'.get? a=some o):RawD h' a es ep:=let ⟨o,e,r⟩:=x; ⟨o,k o e,r⟩
theorem RawD.lt {h:Heap} {a:Addr} {es:Array DictEntry} {ep:Nat} (x:RawD h a es ep):a < h.objs.size:=let ⟨_,e,_⟩:=x; Heap.lt_size e
theorem walks_raw (hh:A.handled=none) (I d:Addr) (hne:d ≠ I) (es:Array DictEntry) (ep:Nat) :
    Walks prog w A I [I,d] [I] es.size (fun i v=>∃ e,es[i]?=some e/\v=e.key) (fun i h=>h.IsKeyIter I d i es.size ep/\RawD h d es ep) where
  sub:=fun b hb=>by simp at hb; simp [hb]
  frame:=fun _ _ _ st hk=>⟨st.1.at fun o e=>hk I (by simp) o e,st.2.at fun o e=>hk d (by simp) o e⟩
  item:=fun i s Q E hi st hQ=>by
    refine raw_item st.1 st.2 (Array.getElem?_eq_getElem hi) fun h' hit' hs'=>?_
    exact hQ _ h' s.toks ⟨_,Array.getElem?_eq_getElem hi,rfl⟩ ⟨hit',st.2.at fun o e=>(hs'.2 d hne).trans e⟩ fun b o hb e=>hs'.extBut b o (fun h=>hb (by simp [h])) e
  done:=fun s Q E st hQ=>raw_end hh st.1 st.2 (by simp) fun h' he'=>hQ h' s.toks fun b o hb e=>he' b o (fun h=>hb (by simp [h])) e
  self:=fun _ _ _ _ st hQ=>wpAny_pyIter_keyiter st.1 hQ
theorem src_raw {d:Addr} {es:Array DictEntry} {ep:Nat} (lo:(d == sysModules)=false):PySem.W.KdlSrc prog w "dict" d d es.size (fun i v=>∃ e,es[i]?=some e/\v=e.key) (fun h=>RawD h d es ep) where
  type:=fun _ hm=>hm.typeIs
  there:=fun _ hm=>⟨hm.lt,hm.lt⟩
  keep:=fun _ _ hm hk=>hm.at fun o e=>hk d (.inl rfl) o e
  notList:=by decide
  notTuple:=by decide
  hint:=fun _ _ _ _ hm hq=>PySem.W.kdl_hint_dict hm.typeIs hq
  iter:=fun _ _ hh hm=>⟨_,_,(fun _ _ hq=>raw_iter lo hm hq),walks_raw hh _ d (Nat.ne_of_lt hm.lt) es ep,⟨⟨_,Heap.get?_push_size _ rfl,rfl,rfl⟩,hm.at fun o e=>Heap.get?_push_of_some _ e⟩⟩
theorem collect_raw {d:Addr} {es:Array DictEntry} {ep:Nat} {Q:List Value->Shared->Prop} (lo:(d == sysModules)=false) (hh:A.handled=none) (hm:RawD s.heap d es ep) (hn:es.size<=sizeLine)
    (h:∀ h' tk,(∀ b o,s.heap.get? b=some o->h'.get? b=some o)->s.heap.objs.size<=h'.objs.size->Q (es.toList.map (·.key)) { s with heap:=h',toks:=tk }):wpAny (model prog w) A (collect (.ref d)) Q E s:=by
  unfold collect
  refine wpAny_bind (wpAny_runValue (codeAny_builtin PySem.F.entry_proto_collect ?_))
  rw [Around.under_plainId PySem.F.plain_proto_collect _]
  show wpAny _ A.in1 (newList [] >>= fun l=>again (.builtin "list.__iadd__" ⟨[l,.ref d],[]⟩)) _ _ s
  refine wpAny_bind (wpAny_newObj_type ?_)
  refine wpAny_pure ⟨plainId_quiet PySem.F.plain_list_iadd _,codeAny_builtin PySem.F.entry_list_iadd ?_⟩
  rw [Around.under_plainId PySem.F.plain_list_iadd _]
  have hS:(s.heap.push { cls:=.type "list",data:=.seq ([]:List Value).toArray }).get? s.heap.objs.size=some { cls:=.type "list",data:=.seq ([]:List Value).toArray }:=Heap.get?_push_size _ rfl
  have hk0:∀ b o,s.heap.get? b=some o->(s.heap.push { cls:=.type "list",data:=.seq ([]:List Value).toArray }).get? b=some o:=fun b o e=>Heap.get?_push_of_some _ e
  have hne:s.heap.objs.size ≠ d:=Nat.ne_of_gt hm.lt
  show wpAny _ A.in1 (Builtin.List.listExtendWith (.ref s.heap.objs.size) (.ref d) (.ref s.heap.objs.size)) _ _ _
  refine PySem.W.kdl_extend (prog:=prog) (w:=w) (A:=A) (R:=fun r s'=>match r with | .ok (.ret v)=>wpAny (model prog w) A (match v with | .ref a=>do { let o <- load a; match o.data with | .seq xs _=>pure xs.toList | _=>unsupported "internal:collect" } | _=>unsupported "internal:collect") Q E s' | .ok _=>False | .error e=>E e s') (s:={ s with heap:=s.heap.push { cls:=.type "list",data:=.seq ([]:List Value).toArray } }) (src_raw (es:=es) (ep:=ep) lo) hh (hm.at fun o e=>hk0 d o e) s.heap.objs.size hne hne _ _ hS (fun h' tk acc c hk hS' hacc=>?_) hn
  show wpAny _ A (load s.heap.objs.size >>= _) _ _ _
  refine wpAny_bind (wpAny_load hS' ?_)
  have e:acc.toList=es.toList.map (·.key):=by
    apply List.ext_getElem?
    intro i
    by_cases z:i < es.size
    · have hi:i < acc.size:=by rw [hacc.1]; exact z
      obtain ⟨e,h1,h2⟩:=hacc.2 i acc[i] (Array.getElem?_eq_getElem hi)
      rw [Array.getElem?_toList,Array.getElem?_eq_getElem hi,h2,List.getElem?_map,Array.getElem?_toList,h1]; rfl
    · rw [Array.getElem?_toList,Array.getElem?_eq_none (by rw [hacc.1]; omega),List.getElem?_map,Array.getElem?_toList,Array.getElem?_eq_none (by omega)]; rfl
  show wpAny _ _ (pure acc.toList) _ _ _
  rw [e]
  exact wpAny_pure (h h' tk (fun b o q=>hk b o (Nat.ne_of_lt (Heap.lt_size q)) (hk0 b o q)) (Nat.le_of_lt (Heap.lt_size hS')))
end
end L2
namespace L2
open PySem PySem.Spec PyProof.Rows PySem.W
section
variable {prog:Program} {w:World} {A:Around} {E:Value->Shared->Prop} {s:Shared}
theorem sorted_raw {d:Addr} {es:Array DictEntry} {ep:Nat} {nss:List (List Int)} {Q:Value->Shared->Prop} (lo:(d == sysModules)=false) (hh:A.handled=none) (hm:RawD s.heap d es ep) (hT:TupsAre s.heap (es.toList.map (·.key)) nss) (h64:(es.toList.map (·.key)).length < 64)
    (h:∀ (p:List Nat) (h':Heap) (D k tk:Nat),p.Perm (List.range (es.toList.map (·.key)).length)->(∀ i,1<=i->i < (es.toList.map (·.key)).length->lexL (nss.getD (p.getD i 0) []) (nss.getD (p.getD (i - 1) 0) [])=false)->s.heap.objs.size<=D->h'.get? D=some (seqObj "list" (List.toArray (p.map fun i=>(es.toList.map (·.key)).getD i Value.none)) k)->(∀ b o,s.heap.get? b=some o->h'.get? b=some o)->Q (.ref D) { s with heap:=h',toks:=tk }) :
    wpAny (model prog w) A (call (.builtin "sorted") [.ref d]) Q E s:=by
  have hsz:es.size<=sizeLine:=by
    have:(es.toList.map (·.key)).length=es.size:=by simp
    rw [sizeLine_eq]; omega
  refine Calls.call_function_entry kind_sorted plain_sorted entry_sorted (args_sorted1 _) ?_
  unfold Builtin.«sorted»
  refine wpAny_bind (m:=checkCount "sorted" 1 1 _) (wpAny_pure ?_)
  refine wpAny_bind (collect_raw lo (by simpa using hh) hm hsz fun h1 tk1 keep1 hle=>?_)
  refine wpAny_bind (wpAny_newList ?_ (by rw [sizeLine_eq]; omega))
  generalize es.toList.map (·.key)=vs at *
  have hoL:(h1.push (seqObj "list" vs.toArray 0)).get? h1.objs.size=some (seqObj "list" vs.toArray 0):=Heap.get?_push_size _ rfl
  have keep:∀ b o,s.heap.get? b=some o->(h1.push (seqObj "list" vs.toArray 0)).get? b=some o:=fun b o q=>Heap.get?_push_of_some _ (keep1 b o q)
  show wpAny _ _ _ _ _ { s with heap:=h1.push (seqObj "list" vs.toArray 0),toks:=tk1 }
  refine wpAny_bind (wpAny_holding (wpAny_call_entry slot_list_sort ⟨_,hoL,rfl⟩ entry_list_sort ?body (args_list_sort _)))
  case body=>
    refine sort_tups (s:={ s with heap:=h1.push (seqObj "list" vs.toArray 0),toks:=tk1 }) hoL (hT.keep keep) h64 fun p h' k a1 a2 a3 a4=>?_
    exact ⟨_,rfl,wpAny_pure ⟨_,rfl,h p h' _ k tk1 a1 a2 hle a3 fun b o e=>a4 b o (Nat.ne_of_lt (Heap.lt_size (keep1 b o e))) (keep b o e)⟩⟩
theorem call_len_raw {d:Addr} {es:Array DictEntry} {ep:Nat} {Q:Value->Shared->Prop} (lo:(d == sysModules)=false) (hm:RawD s.heap d es ep) (hfit:es.size < 1000000) (h:∀ t tk,Q (.int es.size t) { s with toks:=tk }):wpAny (model prog w) A (call (.builtin "len") [.ref d]) Q E s:=by
  have hT:=hm.typeIs
  have ho:=hm.obj
  have hb:((es.size:Int) < 2 ^ 63):=by omega
  obtain ⟨hp,g,dr,tk,os⟩:=s
  refine Calls.call_function_entry kind_len plain_len entry_len (args_len1 _) ?_
  unfold Builtin.«len»
  have f1:=PySem.F.slot_dict_len.lookup
  have f2:=PySem.F.slot_dict_len.bind (.ref d)
  repeat (any_goals (first | assumption | ((with_reducible show wpAny _ _ (call (Value.builtin "dict.__len__") _ _) _ _ _); refine wpAny_call_entry PySem.F.slot_dict_len hT PySem.F.entry_dict_len ?_ (PySem.F.args_dict_len_1 _)) | wp_step))
  refine ⟨_,rfl,?_⟩
  have e0:((es.size:Int) + ((0:Nat):Int))=(es.size:Int):=by omega
  rw [e0]
  have n1:¬ ((es.size:Int)>=2 ^ 63):=by omega
  have n2:¬ ((es.size:Int) < 0):=by omega
  repeat (any_goals (first | assumption | wp_step))
  rw [if_neg n1]
  repeat (any_goals (first | assumption | wp_step))
  exact ⟨_,rfl,h _ _⟩
end
theorem dt_raw {P:Program} {w:World} {H:Hp} {h:Heap} {a:Addr} {kvs:List (List Key × V)} (ok:HOk P w H h) (e:H a=some (.dT kvs)):kvs.length<=sizeLine/\(a == sysModules)=false/\∃ es ep as,RawD h a es ep/\es.toList.map (·.key)=as.map Value.ref/\Paired (fun (p:List Key × V) (b:Addr)=>H b=some (.tup (p.1.map kV))) kvs as:=by
  obtain ⟨z,hs,xs,rel,o,es,ep,ho,hx,hd,he,hn⟩:=ok a _ e
  refine ⟨z,hs,es,ep,xs.map (fun q=>q.2.1),⟨o,ho,hx,hd⟩,?_,?_⟩
  · rw [he,List.map_map,List.map_map]
    exact List.map_congr_left fun q _=>rfl
  · clear he hn z e
    induction rel with
    | nil=>exact .nil
    | cons hr _ ih=>exact .cons hr.2.1 ih
theorem tups_keys {P:Program} {w:World} {H:Hp} {h:Heap} (ok:HOk P w H h):∀ {kvs:List (List Key × V)} {as:List Addr} {nss:List (List Int)},Paired (fun (p:List Key × V) (b:Addr)=>H b=some (.tup (p.1.map kV))) kvs as->Paired (fun (p:List Key × V) (ns:List Int)=>ns ≠ []/\p.1=ns.map Sum.inl) kvs nss->TupsAre h (as.map Value.ref) nss
  | [],_,_,.nil,.nil=>.nil
  | p :: kvs,a :: as,[] :: nss,.cons ha t,.cons hn u=>absurd rfl hn.1
  | p :: kvs,a :: as,(x :: ns) :: nss,.cons ha t,.cons hn u=>by
    have r:=tups_keys ok t u
    obtain ⟨_,jts,rj,o,ho,hc,n,hd⟩:=ok a _ ha
    have e:(p.1.map kV)=(x :: ns).map V.int:=by rw [hn.2,List.map_map]; rfl
    rw [e] at rj
    exact .cons ho hc hd (by simpa using intsAre_of rj) r
section
variable {X:Cx}
theorem call_sortedDT (hcm:X.calm=true):CallR X (.builtin "sorted") (fun xs H Q=>∃ a,∃ kvs:List (List Key × V),∃ nss:List (List Int),xs=[.ref a]/\H a=some (.dT kvs)/\kvs.length < 64/\Paired (fun (p:List Key × V) (ns:List Int)=>ns ≠ []/\p.1=ns.map Sum.inl) kvs nss /\
    ∀ d (pp:List Nat) (vs:List V),H d=none->Paired (fun (v:V) (ns:List Int)=>∃ b,v=.ref b/\H b=some (.tup (ns.map V.int))) vs nss->pp.Perm (List.range nss.length)->pp.map (fun i=>nss.getD i [])=sortL nss->Q (.ref d) (upd H d (.lst (pp.map fun i=>vs.getD i .non)))):=by
  intro pins s σ H xs us Q I r h
  obtain ⟨a,kvs,nss,rfl,ea,h64,hp,q⟩:=h
  obtain ⟨u,rfl,rx⟩:=vals1 r
  cases rx
  obtain ⟨z,hs,es,ep,as,hr,hk,hpa⟩:=dt_raw I.hok ea
  have T:=tups_keys I.hok hpa hp
  have l1:kvs.length=as.length:=Paired.length hpa
  have l2:kvs.length=nss.length:=Paired.length hp
  have hvs:Paired (fun (v:V) (ns:List Int)=>∃ b,v=.ref b/\H b=some (.tup (ns.map V.int))) (as.map V.ref) nss:=by
    clear q T l1 l2 hk h64 ea r z
    induction hpa generalizing nss with
    | nil=>cases hp; exact .nil
    | cons ha _ ih=>
      cases hp with
      | cons hn hp'=>
        refine .cons ⟨_,rfl,?_⟩ (ih _ hp')
        rw [ha,hn.2,List.map_map]; rfl
  refine sorted_raw hs (I.ok.hd hcm) hr (by rw [hk]; exact T) (by rw [hk,List.length_map]; omega) fun pp h' D k tk a1 a2 a3 a4 a5=>?_
  rw [hk] at a1 a2 a4
  rw [List.length_map] at a1 a2
  have e:=sort_perm (nss:=nss) (p:=pp) (by rw [<- l2,l1]; exact a1) (fun i g1 g2=>a2 i g1 (by omega))
  have hpl:pp.length=as.length:=by rw [a1.length_eq,List.length_range]
  have hv:Vals (pp.map fun i=>(as.map V.ref).getD i .non) (pp.map fun i=>(as.map Value.ref).getD i Value.none):=by
    have key:∀ l:List Nat,(∀ x ∈ l,x < as.length)->Vals (l.map fun i=>(as.map V.ref).getD i .non) (l.map fun i=>(as.map Value.ref).getD i Value.none):=by
      intro l
      induction l with
      | nil=>intro _; exact .nil
      | cons x l ih=>
        intro hl
        have hx:=hl x (by simp)
        refine .cons ?_ (ih fun y hy=>hl y (List.mem_cons_of_mem _ hy))
        show RelV ((as.map V.ref).getD x .non) ((as.map Value.ref).getD x Value.none)
        rw [List.getD_eq_getElem?_getD,List.getElem?_map,List.getElem?_eq_getElem hx,List.getD_eq_getElem?_getD,List.getElem?_map,List.getElem?_eq_getElem hx]
        rfl
    exact key pp fun x hx=>by have:=a1.mem_iff.mp hx; simpa using this
  exact ⟨.ref D,_,I.laid (t':=tk) (o:=.lst (pp.map fun i=>(as.map V.ref).getD i .non)) a5 a3 ⟨by rw [List.length_map]; rw [sizeLine_eq] at *; omega,_,k,hv,a4⟩,rfl,q D pp _ (I.hok.fresh a3) hvs (by rw [<- l2,l1]; exact a1) e⟩
theorem call_lenDT:CallR X (.builtin "len") (fun xs H Q=>∃ a,∃ kvs:List (List Key × V),xs=[.ref a]/\H a=some (.dT kvs)/\kvs.length < 1000000/\Q (.int kvs.length) H):=by
  intro pins s σ H xs us Q I r h
  obtain ⟨a,kvs,rfl,ea,hl,q⟩:=h
  obtain ⟨u,rfl,rx⟩:=vals1 r
  cases rx
  obtain ⟨z,hs,es,ep,as,hr,hk,hpa⟩:=dt_raw I.hok ea
  have l1:kvs.length=as.length:=Paired.length hpa
  have l2:es.size=kvs.length:=by
    have:=congrArg List.length hk
    simp at this
    omega
  refine call_len_raw hs hr (by omega) fun t tk=>?_
  exact ⟨.int kvs.length,H,I.tok _,⟨t,by rw [l2]⟩,q⟩
end
end L2
namespace L2
open PySem PySem.Spec PyProof.Rows
end L2
namespace L2
open PySem PySem.Spec PyProof.Rows
end L2
namespace L2
open PySem PySem.Spec PyProof.Rows
section
variable {prog:Program} {w:World} {K:Type} [DecidableEq K]
variable {knd:KeyKind prog w K} {L:Bool} {A:Around} {E:Value->Shared->Prop} {s:Shared} {a:Addr}
end
end L2
namespace L2
open PySem PySem.Spec PyProof.Rows
section
variable {prog:Program} {w:World} {A:Around} {E:Value->Shared->Prop} {s:Shared}
end
end L2
namespace L2
open PySem PySem.Spec PyProof.Rows
section
variable {prog:Program} {w:World} {A:Around} {E:Value->Shared->Prop} {s:Shared}
end
end L2
namespace L2
open PySem PySem.Spec PyProof.Rows
section
variable {prog:Program} {w:World} {K:Type} [DecidableEq K] {knd:KeyKind prog w K} {A:Around} {R:Result->Shared->Prop}
end
end L2
namespace L2
open PySem PySem.Spec PyProof.Rows
section
variable {prog:Program} {w:World} {A:Around} {E:Value->Shared->Prop} {s:Shared}
end
end L2
namespace L2
open PySem PySem.Spec PyProof.Rows
section
variable {prog:Program} {w:World} {A:Around} {E:Value->Shared->Prop} {s:Shared}
end
end L2
namespace L2
open PySem PySem.Spec PyProof.Rows
section
variable {prog:Program} {w:World} {A:Around} {E:Value->Shared->Prop} {s:Shared}
end
section
variable {X:Cx}
end
end L2
namespace L2
open PySem PySem.Spec PyProof.Rows SeqAt
section
variable {prog:Program} {w:World} {K:Type} [DecidableEq K] {knd:KeyKind prog w K} {A:Around} {E:Value->Shared->Prop} {s:Shared}
end
section
variable {prog:Program} {w:World} {K:Type} [DecidableEq K] {knd:KeyKind prog w K} {A:Around} {E:Value->Shared->Prop} {s:Shared}
end
section
variable {X:Cx}
end
end L2
namespace L2
open PySem PySem.Spec PyProof.Rows SeqAt
section
variable {X:Cx}
end
end L2
namespace Sm
open PySem PySem.Spec L2
inductive PV where
  | non | bl (b:Bool) | int (i:Int) | str (x:Str) | tup (xs:List PV) | lst (xs:List PV) | fro (xs:List PV) | ref (i:Nat) | dic
inductive Cell where
  | lst (xs:List PV) | dic (kvs:List (Key × PV)) | dtp (kvs:List (List Key × PV)) | frd (kvs:List (Key × PV))
abbrev Q0:=List Cell
structure Exc where
  cls:Str
  fs:Option (Str × PV):=none
inductive Res (α:Type) where
  | ok (a:α) (st:Q0) | exc (x:Exc) (st:Q0) | stuck
abbrev Gam:=List (Option PV)
abbrev ME:=Gam->Q0->Res PV
structure Tk where
  tr:List Addr
  hid:List Addr
instance:Membership Addr Tk:=⟨fun t a=>a ∈ t.tr\/a ∈ t.hid⟩
def Tk.nil:Tk:=⟨[],[]⟩
theorem Tk.not_nil (a:Addr):a ∉ Tk.nil:=fun z=>by rcases z with z | z <;> cases z
def Tk.add (t:Tk) (p:Addr):Tk:=⟨t.tr ++ [p],t.hid⟩
def Tk.hide (t:Tk) (p:Addr):Tk:=⟨t.tr,p :: t.hid⟩
mutual
def Rep (H:Hp) (ρ:Tk):PV->V->Prop
  | .non,v=>v=.non
  | .bl b,v=>v=.bl b
  | .int i,v=>v=.int i
  | .str x,v=>v=.str x
  | .tup ps,v=>∃ a vs,v=.ref a/\H a=some (.tup vs)/\a ∉ ρ/\RepL H ρ ps vs
  | .lst ps,v=>∃ a vs,v=.ref a/\H a=some (.lst vs)/\a ∉ ρ/\RepL H ρ ps vs
  | .fro ps,v=>∃ a vs,v=.ref a/\Rd H a (.lst vs)/\a ∉ ρ/\RepL H ρ ps vs
  | .ref i,v=>∃ a,ρ.tr[i]?=some a/\v=.ref a
  | .dic,v=>∃ a,v=.ref a/\H a=some (.dK [])/\a ∉ ρ
def RepL (H:Hp) (ρ:Tk):List PV->List V->Prop
  | [],vs=>vs=[]
  | p :: ps,vs=>∃ v r,vs=v :: r/\Rep H ρ p v/\RepL H ρ ps r
end
structure Ext (H:Hp) (ρ:Tk) (H':Hp) (ρ':Tk):Prop where
  pre:ρ.tr <+: ρ'.tr
  hidM:∀ a,a ∈ ρ.hid->a ∈ ρ'.hid
  hidN:∀ a,a ∈ ρ'.hid->a ∈ ρ.hid\/H a=none
  keep:∀ a o,H a=some o->a ∉ ρ.tr->H' a=some o
  new:∀ a,a ∈ ρ'.tr->a ∈ ρ.tr\/H a=none
  old:∀ a o,H a=some o->∃ o',H' a=some o'
  frz:∀ a o u,H a=some (.frz o u)->H' a=some (.frz o u)
theorem Ext.refl (H:Hp) (ρ:Tk):Ext H ρ H ρ:=⟨List.prefix_refl _,fun _ h=>h,fun _ h=>.inl h,fun _ _ h _=>h,fun _ h=>.inl h,fun _ o h=>⟨o,h⟩,fun _ _ _ h=>h⟩
theorem Ext.trans {H H1 H2:Hp} {ρ ρ1 ρ2:Tk} (a:Ext H ρ H1 ρ1) (b:Ext H1 ρ1 H2 ρ2):Ext H ρ H2 ρ2 where
  pre:=a.pre.trans b.pre
  hidM:=fun x h=>b.hidM x (a.hidM x h)
  hidN:=fun x h=>by
    rcases b.hidN x h with z | z
    · exact a.hidN x z
    · right
      cases q:H x with
      | none=>rfl
      | some o=>
        obtain ⟨o',e⟩:=a.old x o q
        rw [e] at z; cases z
  keep:=fun x o h n=>b.keep x o (a.keep x o h n) fun z=>by
    rcases a.new x z with z | z
    · exact n z
    · rw [h] at z; cases z
  new:=fun x h=>by
    rcases b.new x h with z | z
    · exact a.new x z
    · right
      cases q:H x with
      | none=>rfl
      | some o=>
        obtain ⟨o',e⟩:=a.old x o q
        rw [e] at z; cases z
  old:=fun x o h=>by
    obtain ⟨o',e⟩:=a.old x o h
    exact b.old x o' e
  frz:=fun x o u h=>b.frz x o u (a.frz x o u h)
theorem Ext.add {H:Hp} {ρ:Tk} {p:Addr} {o:HO} (h:H p=none):Ext H ρ (upd H p o) ρ where
  pre:=List.prefix_refl _
  hidM:=fun _ h=>h
  hidN:=fun _ h=>.inl h
  keep:=fun a u e _=>by rw [Qb (Qc e h)]; exact e
  new:=fun a e=>.inl e
  old:=fun a u e=>⟨u,by rw [Qb (Qc e h)]; exact e⟩
  frz:=fun a o u e=>by rw [Qb (Qc e h)]; exact e
theorem Ext.addT {H:Hp} {ρ:Tk} {p:Addr} {o:HO} (h:H p=none):Ext H ρ (upd H p o) (ρ.add p) where
  pre:=List.prefix_append _ _
  hidM:=fun _ h=>h
  hidN:=fun _ h=>.inl h
  keep:=fun a u e _=>by rw [Qb (Qc e h)]; exact e
  new:=fun a e=>by
    rcases List.mem_append.mp e with z | z
    · exact .inl z
    · right
      have:a=p:=by simpa using z
      rw [this]; exact h
  old:=fun a u e=>⟨u,by rw [Qb (Qc e h)]; exact e⟩
  frz:=fun a o u e=>by rw [Qb (Qc e h)]; exact e
theorem Ext.same {H H':Hp} {ρ:Tk} (h:Same H H'):Ext H ρ H' ρ:=⟨List.prefix_refl _,fun _ h=>h,fun _ h=>.inl h,fun a o e _=>h a o e,fun _ e=>.inl e,fun a o e=>⟨o,h a o e⟩,fun a o u e=>h a _ e⟩
section
variable {H H':Hp} {ρ ρ':Tk}
theorem fresh_not {a:Addr} {o:HO} (x:Ext H ρ H' ρ') (h:H a=some o) (n:a ∉ ρ):a ∉ ρ':=fun z=>by
  rcases z with z | z
  · rcases x.new a z with z | z
    · exact n (.inl z)
    · rw [h] at z; cases z
  · rcases x.hidN a z with z | z
    · exact n (.inr z)
    · rw [h] at z; cases z
theorem Ext.kp {a:Addr} {o:HO} (x:Ext H ρ H' ρ') (h:H a=some o) (n:a ∉ ρ):H' a=some o:=x.keep a o h fun z=>n (.inl z)
mutual
theorem Rep.ext (x:Ext H ρ H' ρ'):∀ {p:PV} {v:V},Rep H ρ p v->Rep H' ρ' p v
  | .non,_,h=>h
  | .bl _,_,h=>h
  | .int _,_,h=>h
  | .str _,_,h=>h
  | .tup ps,v,h=>by
    obtain ⟨a,vs,e,s,n,r⟩:=h
    exact ⟨a,vs,e,x.kp s n,fresh_not x s n,RepL.ext x r⟩
  | .lst ps,v,h=>by
    obtain ⟨a,vs,e,s,n,r⟩:=h
    exact ⟨a,vs,e,x.kp s n,fresh_not x s n,RepL.ext x r⟩
  | .fro ps,v,h=>by
    obtain ⟨a,vs,e,s,n,r⟩:=h
    rcases s with s | ⟨o,s⟩
    · exact ⟨a,vs,e,.inl (x.kp s n),fresh_not x s n,RepL.ext x r⟩
    · exact ⟨a,vs,e,.inr ⟨o,x.kp s n⟩,fresh_not x s n,RepL.ext x r⟩
  | .ref i,v,h=>by
    obtain ⟨a,e,rfl⟩:=h
    obtain ⟨t,et⟩:=x.pre
    refine ⟨a,?_,rfl⟩
    rw [<- et,List.getElem?_append_left (List.getElem?_eq_some_iff.mp e).1]
    exact e
  | .dic,v,h=>by
    obtain ⟨a,e,s,n⟩:=h
    exact ⟨a,e,x.kp s n,fresh_not x s n⟩
theorem RepL.ext (x:Ext H ρ H' ρ'):∀ {ps:List PV} {vs:List V},RepL H ρ ps vs->RepL H' ρ' ps vs
  | [],_,h=>h
  | p :: ps,vs,h=>by
    obtain ⟨v,r,e,h1,h2⟩:=h
    exact ⟨v,r,e,Rep.ext x h1,RepL.ext x h2⟩
end
mutual
theorem Rep.hide {a:Addr} {o:HO} (h:H a=none):∀ {p:PV} {v:V},Rep H ρ p v->Rep (upd H a o) (ρ.hide a) p v
  | .non,_,r=>r
  | .bl _,_,r=>r
  | .int _,_,r=>r
  | .str _,_,r=>r
  | .tup ps,v,⟨b,vs,e,s,n,r⟩=>⟨b,vs,e,by rw [Qb (Qc s h)]; exact s,fun z=>by
      rcases z with z | z
      · exact n (.inl z)
      · rcases List.mem_cons.mp z with z | z
        · exact Qc s h z
        · exact n (.inr z),RepL.hide h r⟩
  | .lst ps,v,⟨b,vs,e,s,n,r⟩=>⟨b,vs,e,by rw [Qb (Qc s h)]; exact s,fun z=>by
      rcases z with z | z
      · exact n (.inl z)
      · rcases List.mem_cons.mp z with z | z
        · exact Qc s h z
        · exact n (.inr z),RepL.hide h r⟩
  | .fro ps,v,⟨b,vs,e,s,n,r⟩=>by
      have ne:b ≠ a:=by
        rcases s with s | ⟨_,s⟩
        · exact Qc s h
        · exact Qc s h
      refine ⟨b,vs,e,?_,fun z=>?_,RepL.hide h r⟩
      · rcases s with s | ⟨u,s⟩
        · exact .inl (by rw [Qb ne]; exact s)
        · exact .inr ⟨u,by rw [Qb ne]; exact s⟩
      · rcases z with z | z
        · exact n (.inl z)
        · rcases List.mem_cons.mp z with z | z
          · exact ne z
          · exact n (.inr z)
  | .ref i,v,r=>r
  | .dic,v,⟨b,e,s,n⟩=>⟨b,e,by rw [Qb (Qc s h)]; exact s,fun z=>by
      rcases z with z | z
      · exact n (.inl z)
      · rcases List.mem_cons.mp z with z | z
        · exact Qc s h z
        · exact n (.inr z)⟩
theorem RepL.hide {a:Addr} {o:HO} (h:H a=none):∀ {ps:List PV} {vs:List V},RepL H ρ ps vs->RepL (upd H a o) (ρ.hide a) ps vs
  | [],_,r=>r
  | p :: ps,_,⟨v,t,e,r1,r2⟩=>⟨v,t,e,Rep.hide h r1,RepL.hide h r2⟩
end
mutual
theorem Rep.rehide {a:Addr} {o:HO} (h:a ∈ ρ.hid):∀ {p:PV} {v:V},Rep H ρ p v->Rep (upd H a o) ρ p v
  | .non,_,r=>r
  | .bl _,_,r=>r
  | .int _,_,r=>r
  | .str _,_,r=>r
  | .tup ps,v,⟨b,vs,e,s,n,r⟩=>⟨b,vs,e,by rw [Qb (show b ≠ a from fun z=>n (.inr (by rw [z]; exact h)))]; exact s,n,RepL.rehide h r⟩
  | .lst ps,v,⟨b,vs,e,s,n,r⟩=>⟨b,vs,e,by rw [Qb (show b ≠ a from fun z=>n (.inr (by rw [z]; exact h)))]; exact s,n,RepL.rehide h r⟩
  | .fro ps,v,⟨b,vs,e,s,n,r⟩=>by
      have ne:b ≠ a:=fun z=>n (.inr (by rw [z]; exact h))
      refine ⟨b,vs,e,?_,n,RepL.rehide h r⟩
      rcases s with s | ⟨u,s⟩
      · exact .inl (by rw [Qb ne]; exact s)
      · exact .inr ⟨u,by rw [Qb ne]; exact s⟩
  | .ref i,v,r=>r
  | .dic,v,⟨b,e,s,n⟩=>⟨b,e,by rw [Qb (show b ≠ a from fun z=>n (.inr (by rw [z]; exact h)))]; exact s,n⟩
theorem RepL.rehide {a:Addr} {o:HO} (h:a ∈ ρ.hid):∀ {ps:List PV} {vs:List V},RepL H ρ ps vs->RepL (upd H a o) ρ ps vs
  | [],_,r=>r
  | p :: ps,_,⟨v,t,e,r1,r2⟩=>⟨v,t,e,Rep.rehide h r1,RepL.rehide h r2⟩
end
mutual
theorem Rep.retr {a:Addr} {o:HO} (h:a ∈ ρ.tr):∀ {p:PV} {v:V},Rep H ρ p v->Rep (upd H a o) ρ p v
  | .non,_,r=>r
  | .bl _,_,r=>r
  | .int _,_,r=>r
  | .str _,_,r=>r
  | .tup ps,v,⟨b,vs,e,s,n,r⟩=>⟨b,vs,e,by rw [Qb (show b ≠ a from fun z=>n (.inl (by rw [z]; exact h)))]; exact s,n,RepL.retr h r⟩
  | .lst ps,v,⟨b,vs,e,s,n,r⟩=>⟨b,vs,e,by rw [Qb (show b ≠ a from fun z=>n (.inl (by rw [z]; exact h)))]; exact s,n,RepL.retr h r⟩
  | .fro ps,v,⟨b,vs,e,s,n,r⟩=>by
      have ne:b ≠ a:=fun z=>n (.inl (by rw [z]; exact h))
      refine ⟨b,vs,e,?_,n,RepL.retr h r⟩
      rcases s with s | ⟨u,s⟩
      · exact .inl (by rw [Qb ne]; exact s)
      · exact .inr ⟨u,by rw [Qb ne]; exact s⟩
  | .ref i,v,r=>r
  | .dic,v,⟨b,e,s,n⟩=>⟨b,e,by rw [Qb (show b ≠ a from fun z=>n (.inl (by rw [z]; exact h)))]; exact s,n⟩
theorem RepL.retr {a:Addr} {o:HO} (h:a ∈ ρ.tr):∀ {ps:List PV} {vs:List V},RepL H ρ ps vs->RepL (upd H a o) ρ ps vs
  | [],_,r=>r
  | p :: ps,_,⟨v,t,e,r1,r2⟩=>⟨v,t,e,Rep.retr h r1,RepL.retr h r2⟩
end
mutual
theorem Rep.unhide {hs:List Addr} (hh:∀ a,a ∈ hs->a ∈ ρ.hid):∀ {p:PV} {v:V},Rep H ρ p v->Rep H ⟨ρ.tr,hs⟩ p v
  | .non,_,r=>r
  | .bl _,_,r=>r
  | .int _,_,r=>r
  | .str _,_,r=>r
  | .tup ps,v,⟨b,vs,e,s,n,r⟩=>⟨b,vs,e,s,fun z=>n (z.imp id (hh _)),RepL.unhide hh r⟩
  | .lst ps,v,⟨b,vs,e,s,n,r⟩=>⟨b,vs,e,s,fun z=>n (z.imp id (hh _)),RepL.unhide hh r⟩
  | .fro ps,v,⟨b,vs,e,s,n,r⟩=>⟨b,vs,e,s,fun z=>n (z.imp id (hh _)),RepL.unhide hh r⟩
  | .ref i,v,r=>r
  | .dic,v,⟨b,e,s,n⟩=>⟨b,e,s,fun z=>n (z.imp id (hh _))⟩
theorem RepL.unhide {hs:List Addr} (hh:∀ a,a ∈ hs->a ∈ ρ.hid):∀ {ps:List PV} {vs:List V},RepL H ρ ps vs->RepL H ⟨ρ.tr,hs⟩ ps vs
  | [],_,r=>r
  | p :: ps,_,⟨v,t,e,r1,r2⟩=>⟨v,t,e,Rep.unhide hh r1,RepL.unhide hh r2⟩
end
theorem RepL.length:∀ {ps:List PV} {vs:List V},RepL H ρ ps vs->ps.length=vs.length
  | [],_,h=>by cases h; rfl
  | p :: ps,_,⟨v,r,rfl,_,h2⟩=>by rw [List.length_cons,List.length_cons,RepL.length h2]
theorem RepL.get:∀ {ps:List PV} {vs:List V} {i:Nat} {p:PV},RepL H ρ ps vs->ps[i]?=some p->∃ v,vs[i]?=some v/\Rep H ρ p v
  | [],_,_,_,_,e=>by simp at e
  | p :: ps,_,0,q,⟨v,r,rfl,h1,h2⟩,e=>by simp at e; subst e; exact ⟨v,rfl,h1⟩
  | p :: ps,_,i + 1,q,⟨v,r,rfl,h1,h2⟩,e=>by
    obtain ⟨u,e1,e2⟩:=RepL.get (i:=i) h2 (by simpa using e)
    exact ⟨u,by simpa using e1,e2⟩
theorem RepL.cons {p:PV} {v:V} {ps:List PV} {vs:List V} (h:Rep H ρ p v) (r:RepL H ρ ps vs):RepL H ρ (p :: ps) (v :: vs):=⟨v,vs,rfl,h,r⟩
theorem RepL.nil:RepL H ρ [] []:=rfl
theorem RepL.append:∀ {ps qs:List PV} {vs us:List V},RepL H ρ ps vs->RepL H ρ qs us->RepL H ρ (ps ++ qs) (vs ++ us)
  | [],_,_,_,h,g=>by cases h; exact g
  | p :: ps,_,_,_,⟨v,r,rfl,h1,h2⟩,g=>⟨v,_,rfl,h1,RepL.append h2 g⟩
theorem RepL.take:∀ {ps:List PV} {vs:List V} (n:Nat),RepL H ρ ps vs->RepL H ρ (ps.take n) (vs.take n)
  | _,_,0,_=>rfl
  | [],_,n + 1,h=>by cases h; rfl
  | p :: ps,_,n + 1,⟨v,r,rfl,h1,h2⟩=>⟨v,_,rfl,h1,RepL.take n h2⟩
theorem RepL.drop:∀ {ps:List PV} {vs:List V} (n:Nat),RepL H ρ ps vs->RepL H ρ (ps.drop n) (vs.drop n)
  | _,_,0,h=>h
  | [],_,n + 1,h=>by cases h; rfl
  | p :: ps,_,n + 1,⟨v,r,rfl,h1,h2⟩=>RepL.drop n h2
theorem RepL.set {p:PV} {v:V} (h:Rep H ρ p v):∀ {ps:List PV} {vs:List V} (i:Nat),RepL H ρ ps vs->RepL H ρ (ps.set i p) (vs.set i v)
  | [],_,_,g=>by cases g; rfl
  | q :: ps,_,0,⟨u,r,rfl,h1,h2⟩=>⟨v,r,rfl,h,h2⟩
  | q :: ps,_,i + 1,⟨u,r,rfl,h1,h2⟩=>⟨u,_,rfl,h1,RepL.set h i h2⟩
theorem RepL.reverse:∀ {ps:List PV} {vs:List V},RepL H ρ ps vs->RepL H ρ ps.reverse vs.reverse
  | [],_,g=>by cases g; rfl
  | q :: ps,_,⟨u,r,rfl,h1,h2⟩=>by rw [List.reverse_cons,List.reverse_cons]; exact (RepL.reverse h2).append (RepL.cons h1 RepL.nil)
theorem RepL.rep {ps:List PV} {vs:List V} (h:RepL H ρ ps vs):∀ n,RepL H ρ (List.replicate n ps).flatten (List.replicate n vs).flatten
  | 0=>rfl
  | n + 1=>by rw [List.replicate_succ,List.replicate_succ,List.flatten_cons,List.flatten_cons]; exact h.append (RepL.rep h n)
theorem RepL.toInts:∀ {ns:List Int} {vs:List V},RepL H ρ (ns.map .int) vs->vs=ns.map V.int
  | [],_,h=>h
  | n :: ns,_,⟨v,r,rfl,h1,h2⟩=>by
    have e:v=V.int n:=h1
    rw [RepL.toInts h2,e]; rfl
theorem RepL.toBls:∀ {ns:List Bool} {vs:List V},RepL H ρ (ns.map .bl) vs->vs=ns.map V.bl
  | [],_,h=>h
  | n :: ns,_,⟨v,r,rfl,h1,h2⟩=>by
    have e:v=V.bl n:=h1
    rw [RepL.toBls h2,e]; rfl
end
def RepD {κ:Type} (H:Hp) (ρ:Tk) (kvs:List (κ × PV)) (vs:List (κ × V)):Prop:=vs.map Prod.fst=kvs.map Prod.fst/\RepL H ρ (kvs.map Prod.snd) (vs.map Prod.snd)
theorem RepD.ext {κ:Type} {H H':Hp} {ρ ρ':Tk} {kvs:List (κ × PV)} {vs:List (κ × V)} (x:Ext H ρ H' ρ') (r:RepD H ρ kvs vs):RepD H' ρ' kvs vs:=⟨r.1,r.2.ext x⟩
theorem RepD.length {κ:Type} {H:Hp} {ρ:Tk} {kvs:List (κ × PV)} {vs:List (κ × V)} (r:RepD H ρ kvs vs):kvs.length=vs.length:=by
  have:=congrArg List.length r.1
  rw [List.length_map,List.length_map] at this
  exact this.symm
def CellR (H:Hp) (ρ:Tk) (a:Addr):Cell->Prop
  | .lst ps=>∃ vs,H a=some (.lst vs)/\RepL H ρ ps vs
  | .dic kvs=>∃ vs,H a=some (.dK vs)/\RepD H ρ kvs vs
  | .dtp kvs=>∃ vs,H a=some (.dT vs)/\RepD H ρ kvs vs
  | .frd kvs=>∃ vs,(∃ o,H a=some (.frz o (.dK vs)))/\RepD H ρ kvs vs
theorem CellR.dom {H:Hp} {ρ:Tk} {a:Addr}:∀ {c:Cell},CellR H ρ a c->∃ o,H a=some o
  | .lst _,⟨_,e,_⟩=>⟨_,e⟩
  | .dic _,⟨_,e,_⟩=>⟨_,e⟩
  | .dtp _,⟨_,e,_⟩=>⟨_,e⟩
  | .frd _,⟨_,⟨_,e⟩,_⟩=>⟨_,e⟩
theorem CellR.ext {H H':Hp} {ρ ρ':Tk} {a:Addr} (x:Ext H ρ H' ρ') (k:∀ o,H a=some o->H' a=some o):∀ {c:Cell},CellR H ρ a c->CellR H' ρ' a c
  | .lst _,⟨vs,e,r⟩=>⟨vs,k _ e,r.ext x⟩
  | .dic _,⟨vs,e,r⟩=>⟨vs,k _ e,r.ext x⟩
  | .dtp _,⟨vs,e,r⟩=>⟨vs,k _ e,r.ext x⟩
  | .frd _,⟨vs,⟨o,e⟩,r⟩=>⟨vs,⟨o,k _ e⟩,r.ext x⟩
structure Rel (H:Hp) (ρ:Tk) (st:Q0):Prop where
  len:ρ.tr.length=st.length
  nd:ρ.tr.Nodup
  hd:∀ a ∈ ρ.hid,∃ o,H a=some o/\∀ xs,o ≠ .tup xs
  ap:∀ a ∈ ρ.hid,a ∉ ρ.tr
  cell:∀ (i:Nat) (a:Addr) (c:Cell),ρ.tr[i]?=some a->st[i]?=some c->CellR H ρ a c
section
variable {H H':Hp} {ρ ρ':Tk} {st st':Q0}
theorem Rel.lst (R:Rel H ρ st) {i:Nat} {ps:List PV} (h:st[i]?=some (.lst ps)):∃ a vs,ρ.tr[i]?=some a/\H a=some (.lst vs)/\RepL H ρ ps vs:=by
  have hi:i < ρ.tr.length:=by rw [R.len]; exact (List.getElem?_eq_some_iff.mp h).1
  have e:ρ.tr[i]?=some ρ.tr[i]:=List.getElem?_eq_getElem hi
  obtain ⟨vs,e1,e2⟩:=R.cell i _ _ e h
  exact ⟨_,vs,e,e1,e2⟩
theorem Rel.dtp (R:Rel H ρ st) {i:Nat} {kvs:List (List Key × PV)} (h:st[i]?=some (.dtp kvs)):∃ a vs,ρ.tr[i]?=some a/\H a=some (.dT vs)/\RepD H ρ kvs vs:=by
  have hi:i < ρ.tr.length:=by rw [R.len]; exact (List.getElem?_eq_some_iff.mp h).1
  have e:ρ.tr[i]?=some ρ.tr[i]:=List.getElem?_eq_getElem hi
  obtain ⟨vs,e1,e2⟩:=R.cell i _ _ e h
  exact ⟨_,vs,e,e1,e2⟩
theorem Rel.dom (R:Rel H ρ st) {a:Addr} (h:a ∈ ρ.tr):∃ o,H a=some o:=by
  obtain ⟨i,hi,e⟩:=List.getElem_of_mem h
  have hs:i < st.length:=by rw [<- R.len]; exact hi
  have q:=R.cell i a st[i] (by rw [List.getElem?_eq_getElem hi,e]) (List.getElem?_eq_getElem hs)
  exact q.dom
theorem Rel.fresh (R:Rel H ρ st) {p:Addr} (h:H p=none):p ∉ ρ:=fun z=>by
  rcases z with z | z
  · obtain ⟨vs,q⟩:=R.dom z
    rw [h] at q; cases q
  · obtain ⟨o,q,_⟩:=R.hd p z
    rw [h] at q; cases q
theorem Rel.later (R:Rel H ρ st) (x:Ext H ρ H' ρ) (k:∀ a o,a ∈ ρ.tr->H a=some o->H' a=some o):Rel H' ρ st where
  len:=R.len
  nd:=R.nd
  hd:=fun a ha=>let ⟨o,e,n⟩:=R.hd a ha; ⟨o,x.keep a o e (R.ap a ha),n⟩
  ap:=R.ap
  cell:=fun i a c h1 h2=>by
    exact (R.cell i a c h1 h2).ext x fun o e=>k a o (List.mem_of_getElem? h1) e
end
theorem Rel.add {H:Hp} {ρ:Tk} {st:Q0} (R:Rel H ρ st) {p:Addr} {o:HO} (h:H p=none):Rel (upd H p o) ρ st:=
  R.later (Ext.add h) fun a u hm e=>by rw [Qb (Qc e h)]; exact e
theorem Rel.same {H H':Hp} {ρ:Tk} {st:Q0} (R:Rel H ρ st) (h:Same H H'):Rel H' ρ st:=R.later (Ext.same h) fun a u _ e=>h a u e
theorem Rel.addC {H:Hp} {ρ:Tk} {st:Q0} (R:Rel H ρ st) {p:Addr} {cl:Cell} {o:HO} (h:H p=none) (r:CellR (upd H p o) (ρ.add p) p cl):Rel (upd H p o) (ρ.add p) (st ++ [cl]) where
  len:=by show (ρ.tr ++ [p]).length=_; rw [List.length_append,List.length_append,R.len]; rfl
  nd:=List.nodup_append.mpr ⟨R.nd,by simp,fun a ha b hb e=>by
    have:b=p:=by simpa using hb
    subst this; subst e
    exact R.fresh h (.inl ha)⟩
  hd:=fun a ha=>let ⟨o,e,n⟩:=R.hd a ha; ⟨o,by rw [Qb (Qc e h)]; exact e,n⟩
  ap:=fun a ha z=>by
    rcases List.mem_append.mp z with z | z
    · exact R.ap a ha z
    · have:a=p:=by simpa using z
      subst this
      exact R.fresh h (.inr ha)
  cell:=fun i a c h1 h2=>by
    have h1:(ρ.tr ++ [p])[i]?=some a:=h1
    by_cases hi:i < st.length
    · rw [List.getElem?_append_left (by rw [R.len]; exact hi)] at h1
      rw [List.getElem?_append_left hi] at h2
      exact (R.cell i a c h1 h2).ext (Ext.addT h) fun u e=>by rw [Qb (Qc e h)]; exact e
    · rw [List.getElem?_append_right (by rw [R.len]; omega)] at h1
      rw [List.getElem?_append_right (by omega)] at h2
      have e0:i - st.length=0:=by
        rcases Nat.eq_zero_or_pos (i - st.length) with z | z
        · exact z
        · rw [List.getElem?_eq_none (by simp; omega)] at h2; cases h2
      rw [R.len,e0] at h1
      rw [e0] at h2
      simp at h1 h2
      subst h1; subst h2
      exact r
theorem nodup_inj {α:Type} {l:List α} (h:l.Nodup) {i j:Nat} (hi:i < l.length) (hj:j < l.length) (e:l[i]=l[j]):i=j:=by
  rcases Nat.lt_trichotomy i j with z | z | z
  · exact absurd e ((List.pairwise_iff_getElem.mp h) i j hi hj z)
  · exact z
  · exact absurd e.symm ((List.pairwise_iff_getElem.mp h) j i hj hi z)
theorem Ext.put {H:Hp} {ρ:Tk} {a:Addr} {o o':HO} (h:a ∈ ρ.tr) (e:H a=some o) (nf:∀ q u,o ≠ .frz q u:=by intro _ _ z; cases z):Ext H ρ (upd H a o') ρ where
  pre:=List.prefix_refl _
  hidM:=fun _ h=>h
  hidN:=fun _ h=>.inl h
  keep:=fun b u q n=>by rw [Qb (show b ≠ a from fun z=>n (by rw [z]; exact h))]; exact q
  new:=fun b q=>.inl q
  old:=fun b u q=>by
    by_cases z:b=a
    · exact ⟨o',by rw [z]; exact upd_same⟩
    · exact ⟨u,by rw [Qb z]; exact q⟩
  frz:=fun b q u k=>by
    by_cases z:b=a
    · rw [z,e] at k; cases k; exact absurd rfl (nf _ _)
    · rw [Qb z]; exact k
theorem Rel.putC {H:Hp} {ρ:Tk} {st:Q0} (R:Rel H ρ st) {i:Nat} {a:Addr} {cl:Cell} {o o':HO} (hi:ρ.tr[i]?=some a) (e:H a=some o) (r:CellR (upd H a o') ρ a cl):Rel (upd H a o') ρ (st.set i cl) where
  len:=by rw [List.length_set]; exact R.len
  nd:=R.nd
  hd:=fun b hb=>let ⟨u,q,n⟩:=R.hd b hb; ⟨u,by rw [Qb (show b ≠ a from fun z=>R.ap b hb (by rw [z]; exact List.mem_of_getElem? hi))]; exact q,n⟩
  ap:=R.ap
  cell:=fun j b c h1 h2=>by
    by_cases hj:i=j
    · subst hj
      rw [hi] at h1; cases h1
      rw [List.getElem?_set_self (by rw [<- R.len]; exact (List.getElem?_eq_some_iff.mp hi).1)] at h2
      cases h2
      exact r
    · rw [List.getElem?_set_ne hj] at h2
      have q:=R.cell j b c h1 h2
      have hb:b ≠ a:=fun z=>by
        subst z
        have l1:=(List.getElem?_eq_some_iff.mp hi)
        have l2:=(List.getElem?_eq_some_iff.mp h1)
        exact hj (nodup_inj R.nd l1.1 l2.1 (l1.2.trans l2.2.symm))
      have hm:=List.mem_of_getElem? hi
      cases c with
      | lst ps=>
        obtain ⟨vs,e1,e2⟩:=q
        exact ⟨vs,by rw [Qb hb]; exact e1,e2.retr hm⟩
      | dic ps=>
        obtain ⟨vs,e1,e2⟩:=q
        exact ⟨vs,by rw [Qb hb]; exact e1,e2.1,e2.2.retr hm⟩
      | dtp ps=>
        obtain ⟨vs,e1,e2⟩:=q
        exact ⟨vs,by rw [Qb hb]; exact e1,e2.1,e2.2.retr hm⟩
      | frd ps=>
        obtain ⟨vs,⟨oo,e1⟩,e2⟩:=q
        exact ⟨vs,⟨oo,by rw [Qb hb]; exact e1⟩,e2.1,e2.2.retr hm⟩
theorem Rel.put {H:Hp} {ρ:Tk} {st:Q0} (R:Rel H ρ st) {i:Nat} {a:Addr} {ps:List PV} {vs:List V} {o:HO} (hi:ρ.tr[i]?=some a) (e:H a=some o) (r:RepL H ρ ps vs):Rel (upd H a (.lst vs)) ρ (st.set i (.lst ps)):=
  R.putC hi e ⟨vs,upd_same,r.retr (List.mem_of_getElem? hi)⟩
theorem Rel.hide {H:Hp} {ρ:Tk} {st:Q0} (R:Rel H ρ st) {p:Addr} {o:HO} (h:H p=none) (nt:∀ xs,o ≠ .tup xs:=by intro _ z; cases z):Rel (upd H p o) (ρ.hide p) st:=by
  have x:Ext H ρ (upd H p o) ρ:=Ext.add h
  have R':=R.add (p:=p) (o:=o) h
  refine ⟨R'.len,R'.nd,fun a ha=>?_,fun a ha z=>?_,fun i a c h1 h2=>?_⟩
  · rcases List.mem_cons.mp ha with rfl | ha
    · exact ⟨o,upd_same,nt⟩
    · exact R'.hd a ha
  · rcases List.mem_cons.mp ha with rfl | ha
    · exact R.fresh h (.inl z)
    · exact R.ap a ha z
  · have q:=R.cell i a c h1 h2
    cases c with
    | lst ps=>
      obtain ⟨vs,e1,e2⟩:=q
      exact ⟨vs,by rw [Qb (Qc e1 h)]; exact e1,e2.hide h⟩
    | dic ps=>
      obtain ⟨vs,e1,e2⟩:=q
      exact ⟨vs,by rw [Qb (Qc e1 h)]; exact e1,e2.1,e2.2.hide h⟩
    | dtp ps=>
      obtain ⟨vs,e1,e2⟩:=q
      exact ⟨vs,by rw [Qb (Qc e1 h)]; exact e1,e2.1,e2.2.hide h⟩
    | frd ps=>
      obtain ⟨vs,⟨oo,e1⟩,e2⟩:=q
      exact ⟨vs,⟨oo,by rw [Qb (Qc e1 h)]; exact e1⟩,e2.1,e2.2.hide h⟩
theorem Rel.rehide {H:Hp} {ρ:Tk} {st:Q0} (R:Rel H ρ st) {p:Addr} {o:HO} (h:p ∈ ρ.hid) (nt:∀ xs,o ≠ .tup xs:=by intro _ z; cases z):Rel (upd H p o) ρ st:=by
  refine ⟨R.len,R.nd,fun a ha=>?_,R.ap,fun i a c h1 h2=>?_⟩
  · by_cases e:a=p
    · exact ⟨o,by rw [e]; exact upd_same,nt⟩
    · obtain ⟨u,q,n⟩:=R.hd a ha
      exact ⟨u,by rw [Qb e]; exact q,n⟩
  · have q:=R.cell i a c h1 h2
    have ne:a ≠ p:=fun z=>R.ap p h (by rw [<- z]; exact List.mem_of_getElem? h1)
    cases c with
    | lst ps=>
      obtain ⟨vs,e1,e2⟩:=q
      exact ⟨vs,by rw [Qb ne]; exact e1,e2.rehide h⟩
    | dic ps=>
      obtain ⟨vs,e1,e2⟩:=q
      exact ⟨vs,by rw [Qb ne]; exact e1,e2.1,e2.2.rehide h⟩
    | dtp ps=>
      obtain ⟨vs,e1,e2⟩:=q
      exact ⟨vs,by rw [Qb ne]; exact e1,e2.1,e2.2.rehide h⟩
    | frd ps=>
      obtain ⟨vs,⟨oo,e1⟩,e2⟩:=q
      exact ⟨vs,⟨oo,by rw [Qb ne]; exact e1⟩,e2.1,e2.2.rehide h⟩
theorem Rel.unhide {H:Hp} {ρ:Tk} {st:Q0} {hs:List Addr} (hh:∀ a,a ∈ hs->a ∈ ρ.hid) (R:Rel H ρ st):Rel H ⟨ρ.tr,hs⟩ st:=by
  refine ⟨R.len,R.nd,fun a ha=>R.hd a (hh a ha),fun a ha=>R.ap a (hh a ha),fun i a c h1 h2=>?_⟩
  have q:=R.cell i a c h1 h2
  cases c with
  | lst ps=>
    obtain ⟨vs,e1,e2⟩:=q
    exact ⟨vs,e1,RepL.unhide hh e2⟩
  | dic ps=>
    obtain ⟨vs,e1,e2⟩:=q
    exact ⟨vs,e1,e2.1,RepL.unhide hh e2.2⟩
  | dtp ps=>
    obtain ⟨vs,e1,e2⟩:=q
    exact ⟨vs,e1,e2.1,RepL.unhide hh e2.2⟩
  | frd ps=>
    obtain ⟨vs,e1,e2⟩:=q
    exact ⟨vs,e1,e2.1,RepL.unhide hh e2.2⟩
theorem Ext.hide {H:Hp} {ρ:Tk} {p:Addr} {o:HO} (h:H p=none):Ext H ρ (upd H p o) (ρ.hide p) where
  pre:=List.prefix_refl _
  hidM:=fun _ h=>List.mem_cons_of_mem _ h
  hidN:=fun a ha=>by
    rcases List.mem_cons.mp ha with rfl | ha
    · exact .inr h
    · exact .inl ha
  keep:=fun a u e _=>by rw [Qb (Qc e h)]; exact e
  new:=fun a e=>.inl e
  old:=fun a u e=>⟨u,by rw [Qb (Qc e h)]; exact e⟩
  frz:=fun a o u e=>by rw [Qb (Qc e h)]; exact e
theorem Ext.put0 {H H1:Hp} {ρ ρ1:Tk} {p:Addr} {o:HO} (x:Ext H ρ H1 ρ1) (h:H p=none):Ext H ρ (upd H1 p o) ρ1 where
  pre:=x.pre
  hidM:=x.hidM
  hidN:=x.hidN
  keep:=fun a u e n=>by rw [Qb (Qc e h)]; exact x.keep a u e n
  new:=x.new
  old:=fun a u e=>by rw [Qb (Qc e h)]; exact x.old a u e
  frz:=fun a o u e=>by rw [Qb (Qc e h)]; exact x.frz a o u e
theorem Ext.unhide {H H1:Hp} {ρ ρ1:Tk} (x:Ext H ρ H1 ρ1):Ext H ρ H1 ⟨ρ1.tr,ρ.hid⟩ where
  pre:=x.pre
  hidM:=fun _ h=>h
  hidN:=fun _ h=>.inl h
  keep:=x.keep
  new:=x.new
  old:=x.old
  frz:=x.frz
def EnvR (H:Hp) (ρ:Tk) (Γ:Gam) (σ:St):Prop:=Γ.length=σ.length/\∀ (i:Nat) (p:PV),Γ[i]?=some (some p)->∃ v,σ[i]?=some (some v)/\Rep H ρ p v
theorem EnvR.ext {H H':Hp} {ρ ρ':Tk} {Γ:Gam} {σ:St} (x:Ext H ρ H' ρ') (h:EnvR H ρ Γ σ):EnvR H' ρ' Γ σ:=
  ⟨h.1,fun i p e=>let ⟨v,a,b⟩:=h.2 i p e; ⟨v,a,b.ext x⟩⟩
theorem EnvR.hide {H:Hp} {ρ:Tk} {Γ:Gam} {σ:St} {a:Addr} {o:HO} (n:H a=none) (h:EnvR H ρ Γ σ):EnvR (upd H a o) (ρ.hide a) Γ σ:=⟨h.1,fun i p e=>let ⟨v,a,b⟩:=h.2 i p e; ⟨v,a,b.hide n⟩⟩
theorem EnvR.rehide {H:Hp} {ρ:Tk} {Γ:Gam} {σ:St} {a:Addr} {o:HO} (n:a ∈ ρ.hid) (h:EnvR H ρ Γ σ):EnvR (upd H a o) ρ Γ σ:=⟨h.1,fun i p e=>let ⟨v,a,b⟩:=h.2 i p e; ⟨v,a,b.rehide n⟩⟩
theorem EnvR.set {H:Hp} {ρ:Tk} {Γ:Gam} {σ:St} {p:PV} {v:V} (h:EnvR H ρ Γ σ) (r:Rep H ρ p v) (i:Nat):EnvR H ρ (Γ.set i (some p)) (σ.set i (some v)):=by
  refine ⟨by rw [List.length_set,List.length_set]; exact h.1,fun j q e=>?_⟩
  rw [List.getElem?_set] at e
  rw [List.getElem?_set]
  by_cases hj:i=j
  · subst hj
    simp only [if_true] at e ⊢
    by_cases hl:i < Γ.length
    · rw [if_pos hl] at e; cases e
      rw [if_pos (by rw [<- h.1]; exact hl)]
      exact ⟨v,rfl,r⟩
    · rw [if_neg hl] at e; cases e
  · rw [if_neg hj] at e ⊢
    exact h.2 j q e
end Sm
namespace Sm
open PySem PySem.Spec L2
def Res.bind {α β:Type} (r:Res α) (f:α->Q0->Res β):Res β:=match r with
  | .ok a st=>f a st
  | .exc x st=>.exc x st
  | .stuck=>.stuck
def okO {α:Type} (st:Q0):Option α->Res α
  | some a=>.ok a st
  | none=>.stuck
section
variable (X:Cx)
def WE (e:Expr):TE:=fun σ H Q=>∀ (pins:List (Addr × Obj)) (s:Shared),Inv X pins σ H s->wpAny (model X.prog X.w) X.A (eval e X.env) (EP X pins σ Q) X.xe s
def WT (e:Expr):TT:=fun σ H Q=>∀ (pins:List (Addr × Obj)) (s:Shared),Inv X pins σ H s->wpAny (model X.prog X.w) X.A (isTrue e X.env (eval e X.env)) (TP X pins σ Q) X.xe s
def WW (e:Expr):TT:=fun σ H Q=>∀ (wh:Sem Value) (pins:List (Addr × Obj)) (s:Shared),Inv X pins σ H s->wpAny (model X.prog X.w) X.A (isTrue e X.env wh) (TP X pins σ Q) X.xe s
def WA (es:List Expr):TA:=fun σ H Q=>∀ (pos:Pos) (pins:List (Addr × Obj)) (s:Shared),Inv X pins σ H s->wpAny (model X.prog X.w) X.A (spliced (backTo pos (starEach es X.env))) (AP X pins σ Q) X.xe s
def WS (st:Stmt):TS:=fun D σ H=>∀ (pins:List (Addr × Obj)) (s:Shared),Inv X pins σ H s->wpAny (model X.prog X.w) X.A (exec st X.env) (SP X pins D) X.xe s
def WB (st:List Stmt):TS:=fun D σ H=>∀ (pins:List (Addr × Obj)) (s:Shared),Inv X pins σ H s->wpAny (model X.prog X.w) X.A (execs st X.env) (SP X pins D) X.xe s
def WI (tg iter : Expr) : TI := fun σ H R => ∀ (pins : List (Addr × Obj)) (s : Shared), Inv X pins σ H s ->
    wpAny (model X.prog X.w) X.A (eval iter X.env) (fun v s1=>wpAny (model X.prog X.w) X.A (pyIter v) (PIE X pins σ tg R) X.xe s1) X.xe s
def WO (f:Value->Value->Sem Value):R2:=fun x y H Q=>∀ (pins:List (Addr × Obj)) (s:Shared) (σ:St) (v u:Value),Inv X pins σ H s->RelV x v->RelV y u->wpAny (model X.prog X.w) X.A (f v u) (EP X pins σ Q) X.xe s
def WC (f:Value):List V->Hp->VK->Prop:=fun xs H Q=>∀ (pins:List (Addr × Obj)) (s:Shared) (σ:St) (us:List Value),Inv X pins σ H s->Vals xs us->wpAny (model X.prog X.w) X.A (call f us) (EP X pins σ Q) X.xe s
end
section
variable {X:Cx}
theorem pe_w {e:Expr}:PE X e (WE X e):=fun pins s _ _ _ I h=>h pins s I
theorem pt_w {e:Expr}:PT X e (WT X e):=fun pins s _ _ _ I h=>h pins s I
theorem pw_w {e:Expr}:PW X e (WW X e):=fun wh pins s _ _ _ I h=>h wh pins s I
theorem pa_w {es:List Expr}:PA X es (WA X es):=fun pos pins s _ _ _ I h=>h pos pins s I
theorem ps_w {st:Stmt}:PS X st (WS X st):=fun pins s _ _ _ I h=>h pins s I
theorem pss_w {st:List Stmt}:PSs X st (WB X st):=fun pins s _ _ _ I h=>h pins s I
theorem pi_w {tg iter:Expr}:PI X tg iter (WI X tg iter):=fun pins s _ _ _ I h=>h pins s I
theorem op_w {f:Value->Value->Sem Value}:OpR X f (WO X f):=fun pins s σ _ _ _ v u _ I r1 r2 h=>h pins s σ v u I r1 r2
theorem call_w {f:Value}:CallR X f (WC X f):=fun pins s σ _ _ us _ I r h=>h pins s σ us I r
theorem WE.of {e:Expr} {t:TE} {σ:St} {H:Hp} {Q:VK} (h:PE X e t) (q:t σ H Q):WE X e σ H Q:=fun pins s I=>h pins s σ H Q I q
theorem WT.of {e:Expr} {t:TT} {σ:St} {H:Hp} {Q:Bool->Hp->Prop} (h:PT X e t) (q:t σ H Q):WT X e σ H Q:=fun pins s I=>h pins s σ H Q I q
theorem WW.of {e:Expr} {t:TT} {σ:St} {H:Hp} {Q:Bool->Hp->Prop} (h:PW X e t) (q:t σ H Q):WW X e σ H Q:=fun wh pins s I=>h wh pins s σ H Q I q
theorem WA.of {es:List Expr} {t:TA} {σ:St} {H:Hp} {Q:List V->Hp->Prop} (h:PA X es t) (q:t σ H Q):WA X es σ H Q:=fun pos pins s I=>h pos pins s σ H Q I q
theorem WS.of {st:Stmt} {t:TS} {σ:St} {H:Hp} {D:Ends} (h:PS X st t) (q:t D σ H):WS X st D σ H:=fun pins s I=>h pins s σ H D I q
theorem WB.of {st:List Stmt} {t:TS} {σ:St} {H:Hp} {D:Ends} (h:PSs X st t) (q:t D σ H):WB X st D σ H:=fun pins s I=>h pins s σ H D I q
theorem WI.of {tg iter:Expr} {t:TI} {σ:St} {H:Hp} {R:It->Hp->Prop} (h:PI X tg iter t) (q:t σ H R):WI X tg iter σ H R:=fun pins s I=>h pins s σ H R I q
theorem WO.of {f:Value->Value->Sem Value} {r:R2} {x y:V} {H:Hp} {Q:VK} (h:OpR X f r) (q:r x y H Q):WO X f x y H Q:=fun pins s σ v u I r1 r2=>h pins s σ H x y v u Q I r1 r2 q
theorem WC.of {f:Value} {r:List V->Hp->VK->Prop} {xs:List V} {H:Hp} {Q:VK} (h:CallR X f r) (q:r xs H Q):WC X f xs H Q:=fun pins s σ us I r1=>h pins s σ H xs us Q I r1 q
end
def XFs (H:Hp) (ρ:Tk):Option (Str × PV)->Option Addr->Prop
  | none,dv=>dv=none
  | some (n,p),dv=>∃ dx v,dv=some dx/\H dx=some (.xd [(n,v)])/\dx ∉ ρ/\Rep H ρ p v
def Acc {α:Type} (mg:Str->Option Value) (E:XK) (H:Hp) (ρ:Tk) (P:α->Q0->Hp->Tk->Prop):Res α->Prop
  | .ok a st=>∀ H' ρ',Ext H ρ H' ρ'->Rel H' ρ' st->P a st H' ρ'
  | .exc x st=>∀ C dv H' ρ',mg x.cls=some (.ref C)->Ext H ρ H' ρ'->Rel H' ρ' st->XFs H' ρ' x.fs dv->E (.ref C) dv H'
  | .stuck=>False
section
variable {α β:Type} {mg:Str->Option Value} {E:XK} {H H1:Hp} {ρ ρ1:Tk}
theorem Acc.mono {P P':α->Q0->Hp->Tk->Prop} {r:Res α} (h:Acc mg E H ρ P r) (x:Ext H ρ H1 ρ1) (k:∀ a st H' ρ',P a st H' ρ'->P' a st H' ρ'):Acc mg E H1 ρ1 P' r:=by
  cases r with
  | ok a st=>exact fun H' ρ' x' R'=>k _ _ _ _ (h H' ρ' (x.trans x') R')
  | exc e st=>exact fun C dv H' ρ' m x' R' f=>h C dv H' ρ' m (x.trans x') R' f
  | stuck=>exact h
theorem Acc.later {P:α->Q0->Hp->Tk->Prop} {r:Res α} (h:Acc mg E H ρ P r) (x:Ext H ρ H1 ρ1):Acc mg E H1 ρ1 P r:=h.mono x fun _ _ _ _ p=>p
theorem Acc.bind {P:β->Q0->Hp->Tk->Prop} {r:Res α} {f:α->Q0->Res β} (h:Acc mg E H ρ P (r.bind f)):Acc mg E H ρ (fun a st1 H1 ρ1=>Acc mg E H1 ρ1 P (f a st1)) r:=by
  cases r with
  | ok a st=>exact fun H' ρ' x' R'=>Acc.later (show Acc mg E H ρ P (f a st) from h) x'
  | exc e st=>exact h
  | stuck=>exact h
end
abbrev QV (Q:VK):PV->Q0->Hp->Tk->Prop:=fun p _ H' ρ'=>∀ v,Rep H' ρ' p v->Q v H'
abbrev QL (Q:List V->Hp->Prop):List PV->Q0->Hp->Tk->Prop:=fun ps _ H' ρ'=>∀ vs,RepL H' ρ' ps vs->Q vs H'
abbrev QB (Q:Bool->Hp->Prop):Bool->Q0->Hp->Tk->Prop:=fun b _ H' _=>Q b H'
structure SimE (X:Cx) (E:XK) (e:Expr) (m:ME):Prop where
  run:∀ (Γ:Gam) (σ:St) (H:Hp) (ρ:Tk) (st:Q0) (Q:VK),Rel H ρ st->EnvR H ρ Γ σ->Acc X.mg E H ρ (QV Q) (m Γ st)->WE X e σ H Q
structure SimT (X:Cx) (E:XK) (e:Expr) (m:Gam->Q0->Res Bool):Prop where
  run:∀ (Γ:Gam) (σ:St) (H:Hp) (ρ:Tk) (st:Q0) (Q:Bool->Hp->Prop),Rel H ρ st->EnvR H ρ Γ σ->Acc X.mg E H ρ (QB Q) (m Γ st)->WT X e σ H Q
structure SimW (X:Cx) (E:XK) (e:Expr) (m:Gam->Q0->Res Bool):Prop where
  run:∀ (Γ:Gam) (σ:St) (H:Hp) (ρ:Tk) (st:Q0) (Q:Bool->Hp->Prop),Rel H ρ st->EnvR H ρ Γ σ->Acc X.mg E H ρ (QB Q) (m Γ st)->WW X e σ H Q
structure SimA (X:Cx) (E:XK) (es:List Expr) (m:Gam->Q0->Res (List PV)):Prop where
  run:∀ (Γ:Gam) (σ:St) (H:Hp) (ρ:Tk) (st:Q0) (Q:List V->Hp->Prop),Rel H ρ st->EnvR H ρ Γ σ->Acc X.mg E H ρ (QL Q) (m Γ st)->WA X es σ H Q
abbrev OP:=Q0->PV->PV->Res PV
structure OpS (X:Cx) (E:XK) (f:Value->Value->Sem Value) (o:OP):Prop where
  run:∀ (H:Hp) (ρ:Tk) (st:Q0) (p q:PV) (x y:V) (Q:VK),Rel H ρ st->Rep H ρ p x->Rep H ρ q y->Acc X.mg E H ρ (QV Q) (o st p q)->WO X f x y H Q
abbrev CF:=Q0->List PV->Res PV
structure CallS (X:Cx) (E:XK) (f:Value) (o:CF):Prop where
  run:∀ (H:Hp) (ρ:Tk) (st:Q0) (ps:List PV) (xs:List V) (Q:VK),Rel H ρ st->RepL H ρ ps xs->Acc X.mg E H ρ (QV Q) (o st ps)->WC X f xs H Q
section
variable {X:Cx} {E:XK} {Γ:Gam} {σ:St} {H:Hp} {ρ:Tk} {st:Q0}
theorem SimE.use {e:Expr} {m:ME} (s:SimE X E e m) {P:PV->Q0->Hp->Tk->Prop} {Q:VK} (R:Rel H ρ st) (G:EnvR H ρ Γ σ) (h:Acc X.mg E H ρ P (m Γ st))
    (k:∀ p st1 H1 ρ1 v,Ext H ρ H1 ρ1->Rel H1 ρ1 st1->EnvR H1 ρ1 Γ σ->Rep H1 ρ1 p v->P p st1 H1 ρ1->Q v H1):WE X e σ H Q:=by
  refine s.run Γ σ H ρ st Q R G ?_
  cases r:m Γ st with
  | ok p st1=>rw [r] at h; exact fun H' ρ' x' R' v rv=>k p st1 H' ρ' v x' R' (G.ext x') rv (h H' ρ' x' R')
  | exc e st=>rw [r] at h; exact h
  | stuck=>rw [r] at h; exact h
theorem SimE.use' {e:Expr} {m:ME} (s:SimE X E e m) {P:PV->Q0->Hp->Tk->Prop} {Q:VK} (R:Rel H ρ st) (G:EnvR H ρ Γ σ) (h:Acc X.mg E H ρ P (m Γ st))
    (k:∀ p st1 H1 ρ1 v,m Γ st=.ok p st1->Ext H ρ H1 ρ1->Rel H1 ρ1 st1->EnvR H1 ρ1 Γ σ->Rep H1 ρ1 p v->P p st1 H1 ρ1->Q v H1):WE X e σ H Q:=by
  refine s.run Γ σ H ρ st Q R G ?_
  cases r:m Γ st with
  | ok p st1=>rw [r] at h; exact fun H' ρ' x' R' v rv=>k p st1 H' ρ' v r x' R' (G.ext x') rv (h H' ρ' x' R')
  | exc e st=>rw [r] at h; exact h
  | stuck=>rw [r] at h; exact h
theorem SimA.use' {es:List Expr} {m:Gam->Q0->Res (List PV)} (s:SimA X E es m) {P:List PV->Q0->Hp->Tk->Prop} {Q:List V->Hp->Prop} (R:Rel H ρ st) (G:EnvR H ρ Γ σ) (h:Acc X.mg E H ρ P (m Γ st))
    (k:∀ ps st1 H1 ρ1 vs,m Γ st=.ok ps st1->Ext H ρ H1 ρ1->Rel H1 ρ1 st1->EnvR H1 ρ1 Γ σ->RepL H1 ρ1 ps vs->P ps st1 H1 ρ1->Q vs H1):WA X es σ H Q:=by
  refine s.run Γ σ H ρ st Q R G ?_
  cases r:m Γ st with
  | ok p st1=>rw [r] at h; exact fun H' ρ' x' R' v rv=>k p st1 H' ρ' v r x' R' (G.ext x') rv (h H' ρ' x' R')
  | exc e st=>rw [r] at h; exact h
  | stuck=>rw [r] at h; exact h
theorem SimT.use {e:Expr} {m:Gam->Q0->Res Bool} (s:SimT X E e m) {P:Bool->Q0->Hp->Tk->Prop} {Q:Bool->Hp->Prop} (R:Rel H ρ st) (G:EnvR H ρ Γ σ) (h:Acc X.mg E H ρ P (m Γ st))
    (k:∀ p st1 H1 ρ1,Ext H ρ H1 ρ1->Rel H1 ρ1 st1->EnvR H1 ρ1 Γ σ->P p st1 H1 ρ1->Q p H1):WT X e σ H Q:=by
  refine s.run Γ σ H ρ st Q R G ?_
  cases r:m Γ st with
  | ok p st1=>rw [r] at h; exact fun H' ρ' x' R'=>k p st1 H' ρ' x' R' (G.ext x') (h H' ρ' x' R')
  | exc e st=>rw [r] at h; exact h
  | stuck=>rw [r] at h; exact h
theorem SimT.use' {e:Expr} {m:Gam->Q0->Res Bool} (s:SimT X E e m) {P:Bool->Q0->Hp->Tk->Prop} {Q:Bool->Hp->Prop} (R:Rel H ρ st) (G:EnvR H ρ Γ σ) (h:Acc X.mg E H ρ P (m Γ st))
    (k:∀ p st1 H1 ρ1,m Γ st=.ok p st1->Ext H ρ H1 ρ1->Rel H1 ρ1 st1->EnvR H1 ρ1 Γ σ->P p st1 H1 ρ1->Q p H1):WT X e σ H Q:=by
  refine s.run Γ σ H ρ st Q R G ?_
  cases r:m Γ st with
  | ok p st1=>rw [r] at h; exact fun H' ρ' x' R'=>k p st1 H' ρ' r x' R' (G.ext x') (h H' ρ' x' R')
  | exc e st=>rw [r] at h; exact h
  | stuck=>rw [r] at h; exact h
theorem SimW.use {e:Expr} {m:Gam->Q0->Res Bool} (s:SimW X E e m) {P:Bool->Q0->Hp->Tk->Prop} {Q:Bool->Hp->Prop} (R:Rel H ρ st) (G:EnvR H ρ Γ σ) (h:Acc X.mg E H ρ P (m Γ st))
    (k:∀ p st1 H1 ρ1,Ext H ρ H1 ρ1->Rel H1 ρ1 st1->EnvR H1 ρ1 Γ σ->P p st1 H1 ρ1->Q p H1):WW X e σ H Q:=by
  refine s.run Γ σ H ρ st Q R G ?_
  cases r:m Γ st with
  | ok p st1=>rw [r] at h; exact fun H' ρ' x' R'=>k p st1 H' ρ' x' R' (G.ext x') (h H' ρ' x' R')
  | exc e st=>rw [r] at h; exact h
  | stuck=>rw [r] at h; exact h
theorem SimA.use {es:List Expr} {m:Gam->Q0->Res (List PV)} (s:SimA X E es m) {P:List PV->Q0->Hp->Tk->Prop} {Q:List V->Hp->Prop} (R:Rel H ρ st) (G:EnvR H ρ Γ σ) (h:Acc X.mg E H ρ P (m Γ st))
    (k:∀ ps st1 H1 ρ1 vs,Ext H ρ H1 ρ1->Rel H1 ρ1 st1->EnvR H1 ρ1 Γ σ->RepL H1 ρ1 ps vs->P ps st1 H1 ρ1->Q vs H1):WA X es σ H Q:=by
  refine s.run Γ σ H ρ st Q R G ?_
  cases r:m Γ st with
  | ok p st1=>rw [r] at h; exact fun H' ρ' x' R' v rv=>k p st1 H' ρ' v x' R' (G.ext x') rv (h H' ρ' x' R')
  | exc e st=>rw [r] at h; exact h
  | stuck=>rw [r] at h; exact h
theorem OpS.use {f:Value->Value->Sem Value} {o:OP} (s:OpS X E f o) {P:PV->Q0->Hp->Tk->Prop} {Q:VK} {p q:PV} {x y:V} (R:Rel H ρ st) (rp:Rep H ρ p x) (rq:Rep H ρ q y) (h:Acc X.mg E H ρ P (o st p q))
    (k:∀ p st1 H1 ρ1 v,Ext H ρ H1 ρ1->Rel H1 ρ1 st1->Rep H1 ρ1 p v->P p st1 H1 ρ1->Q v H1):WO X f x y H Q:=by
  refine s.run H ρ st p q x y Q R rp rq ?_
  cases r:o st p q with
  | ok p st1=>rw [r] at h; exact fun H' ρ' x' R' v rv=>k p st1 H' ρ' v x' R' rv (h H' ρ' x' R')
  | exc e st=>rw [r] at h; exact h
  | stuck=>rw [r] at h; exact h
end
end Sm
namespace Sm
open PySem PySem.Spec L2 SeqAt
mutual
def peq:PV->PV->Bool
  | .non,.non=>true
  | .bl a,.bl b=>a == b
  | .bl a,.int b=>(if a then 1 else 0) == b
  | .int a,.bl b=>a == (if b then 1 else 0)
  | .int a,.int b=>a == b
  | .str a,.str b=>a == b
  | .tup xs,.tup ys=>peqL xs ys
  | .lst xs,.lst ys=>peqL xs ys
  | .lst xs,.fro ys=>peqL xs ys
  | .fro xs,.lst ys=>peqL xs ys
  | .fro xs,.fro ys=>peqL xs ys
  | _,_=>false
def peqL:List PV->List PV->Bool
  | [],[]=>true
  | x :: xs,y :: ys=>peq x y && peqL xs ys
  | _,_=>false
end
def good:Nat->PV->Bool
  | _,.ref _=>false
  | _,.dic=>false
  | 0,.tup _=>false
  | 0,.lst _=>false
  | 0,.fro _=>false
  | n + 1,.tup xs=>xs.all (good n)
  | n + 1,.lst xs=>xs.all (good n)
  | n + 1,.fro xs=>xs.all (good n)
  | _,_=>true
theorem peqL_len:∀ {xs ys:List PV},xs.length ≠ ys.length->peqL xs ys=false
  | [],[],h=>absurd rfl h
  | [],_ :: _,_=>by simp [peqL]
  | _ :: _,[],_=>by simp [peqL]
  | x :: xs,y :: ys,h=>by
    rw [peqL,peqL_len (xs:=xs) (ys:=ys) fun e=>h (by simp [e]),Bool.and_false]
theorem peqL_all:∀ {xs ys:List PV},xs.length=ys.length->peqL xs ys=(List.range xs.length).all fun j=>peq (xs.getD j .non) (ys.getD j .non)
  | [],[],_=>by simp [peqL]
  | [],_ :: _,h=>by simp at h
  | _ :: _,[],h=>by simp at h
  | x :: xs,y :: ys,h=>by
    rw [peqL,peqL_all (xs:=xs) (ys:=ys) (by simpa using h),List.length_cons,List.range_succ_eq_map,List.all_cons,List.all_map]
    rfl
section
variable {X:Cx} {pins:List (Addr × Obj)} {σ:St} {H:Hp} {s:Shared} {ρ:Tk}
mutual
theorem rep_same:∀ {p q:PV} {x:V} {n:Nat},good n p=true->good n q=true->Rep H ρ p x->Rep H ρ q x->peq p q=true
  | .non,q,x,n,_,gq,h1,h2=>by
    cases h1
    cases q <;> first | rfl | (cases n <;> cases gq; done) | (cases h2; done) | (obtain ⟨_,_,e,_⟩:=h2; cases e) | (obtain ⟨_,_,e⟩:=h2; cases e)
  | .bl b,q,x,n,_,gq,h1,h2=>by
    cases h1
    cases q <;> first | (cases n <;> cases gq; done) | (cases h2; simp [peq]; done) | (obtain ⟨_,_,e,_⟩:=h2; done) | (obtain ⟨_,_,e,_⟩:=h2; cases e; done) | (obtain ⟨_,_,e⟩:=h2; cases e)
  | .int b,q,x,n,_,gq,h1,h2=>by
    cases h1
    cases q <;> first | (cases n <;> cases gq; done) | (cases h2; simp [peq]; done) | (obtain ⟨_,_,e,_⟩:=h2; done) | (obtain ⟨_,_,e,_⟩:=h2; cases e; done) | (obtain ⟨_,_,e⟩:=h2; cases e)
  | .str b,q,x,n,_,gq,h1,h2=>by
    cases h1
    cases q <;> first | (cases n <;> cases gq; done) | (cases h2; simp [peq]; done) | (obtain ⟨_,_,e,_⟩:=h2; done) | (obtain ⟨_,_,e,_⟩:=h2; cases e; done) | (obtain ⟨_,_,e⟩:=h2; cases e)
  | .tup ps,q,x,0,gp,_,_,_=>by cases gp
  | .tup ps,q,x,n + 1,gp,gq,⟨a,vs,e,ha,_,r⟩,h2=>by
    subst e
    cases q with
    | tup qs=>
      obtain ⟨b,us,e,hb,_,r2⟩:=h2
      cases e
      rw [ha] at hb; cases hb
      rw [peq]
      exact repL_same gp gq r r2
    | lst qs=>obtain ⟨b,us,e,hb,_⟩:=h2; cases e; rw [ha] at hb; cases hb
    | fro qs=>obtain ⟨b,us,e,hb,_⟩:=h2; cases e; rcases hb with hb | ⟨o,hb⟩ <;> (rw [ha] at hb; cases hb)
    | ref i=>cases gq
    | dic=>cases gq
    | _=>cases h2
  | .lst ps,q,x,0,gp,_,_,_=>by cases gp
  | .lst ps,q,x,n + 1,gp,gq,⟨a,vs,e,ha,_,r⟩,h2=>by
    subst e
    cases q with
    | lst qs=>
      obtain ⟨b,us,e,hb,_,r2⟩:=h2
      cases e
      rw [ha] at hb; cases hb
      rw [peq]
      exact repL_same gp gq r r2
    | tup qs=>obtain ⟨b,us,e,hb,_⟩:=h2; cases e; rw [ha] at hb; cases hb
    | fro qs=>
      obtain ⟨b,us,e,hb,_,r2⟩:=h2
      cases e
      rcases hb with hb | ⟨o,hb⟩
      · rw [ha] at hb; cases hb
        rw [peq]
        exact repL_same gp gq r r2
      · rw [ha] at hb; cases hb
    | ref i=>cases gq
    | dic=>cases gq
    | _=>cases h2
  | .fro ps,q,x,0,gp,_,_,_=>by cases gp
  | .fro ps,q,x,n + 1,gp,gq,⟨a,vs,e,ha,_,r⟩,h2=>by
    subst e
    cases q with
    | lst qs=>
      obtain ⟨b,us,e,hb,_,r2⟩:=h2
      cases e
      rcases ha with ha | ⟨o,ha⟩
      · rw [ha] at hb; cases hb
        rw [peq]
        exact repL_same gp gq r r2
      · rw [ha] at hb; cases hb
    | tup qs=>obtain ⟨b,us,e,hb,_⟩:=h2; cases e; rcases ha with ha | ⟨o,ha⟩ <;> (rw [ha] at hb; cases hb)
    | fro qs=>
      obtain ⟨b,us,e,hb,_,r2⟩:=h2
      cases e
      have:vs=us:=by
        rcases ha with ha | ⟨o,ha⟩ <;> rcases hb with hb | ⟨o',hb⟩ <;> (rw [ha] at hb; cases hb) <;> rfl
      subst this
      rw [peq]
      exact repL_same gp gq r r2
    | ref i=>cases gq
    | dic=>cases gq
    | _=>cases h2
  | .ref i,_,_,n,gp,_,_,_=>by cases n <;> cases gp
  | .dic,_,_,n,gp,_,_,_=>by cases n <;> cases gp
theorem repL_same:∀ {ps qs:List PV} {vs:List V} {n:Nat},ps.all (good n)=true->qs.all (good n)=true->RepL H ρ ps vs->RepL H ρ qs vs->peqL ps qs=true
  | [],qs,vs,n,_,_,h1,h2=>by
    cases h1
    cases qs with
    | nil=>rfl
    | cons q qs=>obtain ⟨_,_,e,_⟩:=h2; cases e
  | p :: ps,qs,vs,n,g1,g2,⟨v,r,e,h1,h1'⟩,h2=>by
    subst e
    cases qs with
    | nil=>cases h2
    | cons q qs=>
      obtain ⟨_,_,e,h2,h2'⟩:=h2
      cases e
      rw [List.all_cons,Bool.and_eq_true] at g1 g2
      rw [peqL,rep_same g1.1 g2.1 h1 h2,repL_same g1.2 g2.2 h1' h2']; rfl
end
inductive Kd (H:Hp) (ρ:Tk) (s:Shared):PV->Value->Prop where
  | non:Kd H ρ s .non .none
  | bl (b):Kd H ρ s (.bl b) (.bool b)
  | int (i t):Kd H ρ s (.int i) (.int i t)
  | str (x t):Kd H ρ s (.str x) (.str x t)
  | tup (ps a) (vs:List V) (its:List Value):H a=some (.tup vs)->RepL H ρ ps vs->Vals vs its->s.heap.IsTuple a its.toArray->Kd H ρ s (.tup ps) (.ref a)
  | lst (p ps a) (vs:List V) (its:List Value):(p=.lst ps\/p=.fro ps)->RepL H ρ ps vs->Vals vs its->s.heap.IsList a its.toArray->Kd H ρ s p (.ref a)
theorem kd_of {p:PV} {x:V} {u:Value} {n:Nat} (I:Inv X pins σ H s) (g:good n p=true) (r:Rep H ρ p x) (ru:RelV x u):Kd H ρ s p u:=by
  cases p with
  | non=>cases r; cases ru; exact .non
  | bl b=>cases r; cases ru; exact .bl b
  | int i=>cases r; obtain ⟨t,rfl⟩:=ru; exact .int i t
  | str i=>cases r; obtain ⟨t,rfl⟩:=ru; exact .str i t
  | tup ps=>
    obtain ⟨a,vs,rfl,ha,_,rr⟩:=r
    cases ru
    obtain ⟨its,v1,p1,_⟩:=I.tuple (SqT.of (K:=X.K) ha)
    exact .tup ps a vs its ha rr v1 p1
  | lst ps=>
    obtain ⟨a,vs,rfl,ha,_,rr⟩:=r
    cases ru
    obtain ⟨its,v1,p1,_⟩:=I.list (SqL.of (K:=X.K) ha)
    exact .lst _ ps a vs its (.inl rfl) rr v1 p1.isList
  | fro ps=>
    obtain ⟨a,vs,rfl,ha,_,rr⟩:=r
    cases ru
    obtain ⟨its,v1,p1,_⟩:=I.list (show SqL X.K H a vs from .inl ha)
    exact .lst _ ps a vs its (.inr rfl) rr v1 p1.isList
  | ref i=>cases n <;> cases g
  | dic=>cases n <;> cases g
theorem getD_of {ps:List PV} {vs:List V} {its:List Value} (r:RepL H ρ ps vs) (v:Vals vs its) {j:Nat} (h:j < its.length):∃ x,Rep H ρ (ps.getD j .non) x/\RelV x its[j]:=by
  have l1:=r.length
  have l2:=v.length
  have hj:j < ps.length:=by omega
  obtain ⟨x,e1,e2⟩:=r.get (List.getElem?_eq_getElem hj)
  obtain ⟨u,e3,e4⟩:=v.get e1
  rw [List.getElem?_eq_getElem h] at e3; cases e3
  refine ⟨x,?_,e4⟩
  rw [List.getD,List.getElem?_eq_getElem hj]
  exact e2
theorem good_getD {ps:List PV} {n:Nat} (g:ps.all (good n)=true) (j:Nat) (hj:j < ps.length):good n (ps.getD j .non)=true:=by
  rw [List.getD,List.getElem?_eq_getElem hj]
  exact (List.all_eq_true.mp g) _ (List.getElem_mem hj)
theorem peqL_range {ps qs:List PV}:((List.range (min ps.length qs.length)).all (fun j=>peq (ps.getD j .non) (qs.getD j .non)) && ps.length == qs.length)=peqL ps qs:=by
  by_cases e:ps.length=qs.length
  · rw [peqL_all e,<- e,Nat.min_self,beq_self_eq_true,Bool.and_true]
  · rw [peqL_len e,beq_eq_false_iff_ne.mpr e,Bool.and_false]
theorem eqAts:∀ (n:Nat) {A:Around} {p q:PV} {x y:V} {u v:Value},Inv X pins σ H s->good n p=true->good n q=true->A.units + n < cLine->Rep H ρ p x->RelV x u->Rep H ρ q y->RelV y v ->
    EqAt A s u v (peq p q)/\RcAt A s u v (peq p q)/\RcNeAt A s u v (!peq p q):=by
  intro n
  induction n with
  | zero=>
    intro A p q x y u v I gp gq hu rp ru rq rv
    have k1:=kd_of I gp rp ru
    have k2:=kd_of I gq rq rv
    have hu:A.units < cLine:=by omega
    cases k1 with
    | tup=>cases gp
    | lst p ps a vs its h=>rcases h with rfl | rfl <;> cases gp
    | non=>cases k2 with
      | tup=>cases gq
      | lst p ps a vs its h=>rcases h with rfl | rfl <;> cases gq
      | non=>exact ⟨EqAt.same _,RcAt.none_none,RcNeAt.none_none⟩
      | bl b=>exact ⟨EqAt.none_bool _,RcAt.none_bool _,RcNeAt.none_bool _⟩
      | int i t=>exact ⟨EqAt.none_int _ _,RcAt.none_int _ _,RcNeAt.none_int _ _⟩
      | str i t=>exact ⟨EqAt.none_str _ _,RcAt.none_str _ _,RcNeAt.none_str _ _⟩
    | bl a=>cases k2 with
      | tup=>cases gq
      | lst p ps a vs its h=>rcases h with rfl | rfl <;> cases gq
      | non=>exact ⟨EqAt.bool_none _,RcAt.bool_none _,RcNeAt.bool_none _⟩
      | bl b=>exact ⟨EqAt.bool_bool _ _,RcAt.bool_bool _ _,RcNeAt.bool_bool _ _⟩
      | int i t=>exact ⟨EqAt.bool_int _ _ _,RcAt.bool_int _ _ _,RcNeAt.bool_int _ _ _⟩
      | str i t=>exact ⟨EqAt.bool_str _ _ _,RcAt.bool_str _ _ _,RcNeAt.bool_str _ _ _⟩
    | int a at'=>cases k2 with
      | tup=>cases gq
      | lst p ps a vs its h=>rcases h with rfl | rfl <;> cases gq
      | non=>exact ⟨EqAt.int_none _ _,RcAt.int_none _ _,RcNeAt.int_none _ _⟩
      | bl b=>exact ⟨EqAt.int_bool _ _ _,RcAt.int_bool _ _ _,RcNeAt.int_bool _ _ _⟩
      | int i t=>exact ⟨EqAt.int_int _ _ _ _,RcAt.int_int _ _ _ _,RcNeAt.int_int _ _ _ _⟩
      | str i t=>exact ⟨EqAt.int_str _ _ _ _,RcAt.int_str _ _ _ _,RcNeAt.int_str _ _ _ _⟩
    | str a at'=>cases k2 with
      | tup=>cases gq
      | lst p ps a vs its h=>rcases h with rfl | rfl <;> cases gq
      | non=>exact ⟨EqAt.str_none _ _,RcAt.str_none _ _,RcNeAt.str_none _ _⟩
      | bl b=>exact ⟨EqAt.str_bool _ _ _,RcAt.str_bool _ _ _,RcNeAt.str_bool _ _ _⟩
      | int i t=>exact ⟨EqAt.str_int _ _ _ _,RcAt.str_int _ _ _ _,RcNeAt.str_int _ _ _ _⟩
      | str i t=>exact ⟨EqAt.str_str _ _ _ _,RcAt.str_str _ _ _ _,RcNeAt.str_str _ _ _ _⟩
  | succ n ih=>
    intro A p q x y u v I gp gq hu rp ru rq rv
    have k1:=kd_of I gp rp ru
    have k2:=kd_of I gq rq rv
    have hu0:A.units < cLine:=by omega
    have hin:A.in1.units + n < cLine:=by show A.units + 1 + n < cLine; omega
    cases k1 with
    | non=>cases k2 with
      | non=>exact ⟨EqAt.same _,RcAt.none_none,RcNeAt.none_none⟩
      | bl b=>exact ⟨EqAt.none_bool _,RcAt.none_bool _,RcNeAt.none_bool _⟩
      | int i t=>exact ⟨EqAt.none_int _ _,RcAt.none_int _ _,RcNeAt.none_int _ _⟩
      | str i t=>exact ⟨EqAt.none_str _ _,RcAt.none_str _ _,RcNeAt.none_str _ _⟩
      | tup ps a vs its ha r v1 p1=>exact ⟨EqAt.none_tuple p1 hu0,RcAt.none_tuple p1 hu0,RcNeAt.none_tuple p1 hu0⟩
      | lst p ps a vs its h r v1 p1=>rcases h with rfl | rfl <;> exact ⟨EqAt.none_list p1 hu0,RcAt.none_list p1 hu0,RcNeAt.none_list p1 hu0⟩
    | bl a=>cases k2 with
      | non=>exact ⟨EqAt.bool_none _,RcAt.bool_none _,RcNeAt.bool_none _⟩
      | bl b=>exact ⟨EqAt.bool_bool _ _,RcAt.bool_bool _ _,RcNeAt.bool_bool _ _⟩
      | int i t=>exact ⟨EqAt.bool_int _ _ _,RcAt.bool_int _ _ _,RcNeAt.bool_int _ _ _⟩
      | str i t=>exact ⟨EqAt.bool_str _ _ _,RcAt.bool_str _ _ _,RcNeAt.bool_str _ _ _⟩
      | tup ps a vs its ha r v1 p1=>exact ⟨EqAt.bool_tuple _ p1 hu0,RcAt.bool_tuple _ p1 hu0,RcNeAt.bool_tuple _ p1 hu0⟩
      | lst p ps a vs its h r v1 p1=>rcases h with rfl | rfl <;> exact ⟨EqAt.bool_list _ p1 hu0,RcAt.bool_list _ p1 hu0,RcNeAt.bool_list _ p1 hu0⟩
    | int a at'=>cases k2 with
      | non=>exact ⟨EqAt.int_none _ _,RcAt.int_none _ _,RcNeAt.int_none _ _⟩
      | bl b=>exact ⟨EqAt.int_bool _ _ _,RcAt.int_bool _ _ _,RcNeAt.int_bool _ _ _⟩
      | int i t=>exact ⟨EqAt.int_int _ _ _ _,RcAt.int_int _ _ _ _,RcNeAt.int_int _ _ _ _⟩
      | str i t=>exact ⟨EqAt.int_str _ _ _ _,RcAt.int_str _ _ _ _,RcNeAt.int_str _ _ _ _⟩
      | tup ps a vs its ha r v1 p1=>exact ⟨EqAt.int_tuple _ _ p1 hu0,RcAt.int_tuple _ _ p1 hu0,RcNeAt.int_tuple _ _ p1 hu0⟩
      | lst p ps a vs its h r v1 p1=>rcases h with rfl | rfl <;> exact ⟨EqAt.int_list _ _ p1 hu0,RcAt.int_list _ _ p1 hu0,RcNeAt.int_list _ _ p1 hu0⟩
    | str a at'=>cases k2 with
      | non=>exact ⟨EqAt.str_none _ _,RcAt.str_none _ _,RcNeAt.str_none _ _⟩
      | bl b=>exact ⟨EqAt.str_bool _ _ _,RcAt.str_bool _ _ _,RcNeAt.str_bool _ _ _⟩
      | int i t=>exact ⟨EqAt.str_int _ _ _ _,RcAt.str_int _ _ _ _,RcNeAt.str_int _ _ _ _⟩
      | str i t=>exact ⟨EqAt.str_str _ _ _ _,RcAt.str_str _ _ _ _,RcNeAt.str_str _ _ _ _⟩
      | tup ps a vs its ha r v1 p1=>exact ⟨EqAt.str_tuple _ _ p1 hu0,RcAt.str_tuple _ _ p1 hu0,RcNeAt.str_tuple _ _ p1 hu0⟩
      | lst p ps a vs its h r v1 p1=>rcases h with rfl | rfl <;> exact ⟨EqAt.str_list _ _ p1 hu0,RcAt.str_list _ _ p1 hu0,RcNeAt.str_list _ _ p1 hu0⟩
    | tup ps a vs its ha r v1 p1=>cases k2 with
      | non=>exact ⟨EqAt.tuple_none p1 hu0,RcAt.tuple_none p1 hu0,RcNeAt.tuple_none p1 hu0⟩
      | bl b=>exact ⟨EqAt.tuple_bool _ p1 hu0,RcAt.tuple_bool _ p1 hu0,RcNeAt.tuple_bool _ p1 hu0⟩
      | int i t=>exact ⟨EqAt.tuple_int _ _ p1 hu0,RcAt.tuple_int _ _ p1 hu0,RcNeAt.tuple_int _ _ p1 hu0⟩
      | str i t=>exact ⟨EqAt.tuple_str _ _ p1 hu0,RcAt.tuple_str _ _ p1 hu0,RcNeAt.tuple_str _ _ p1 hu0⟩
      | tup qs b us its2 hb r2 v2 p2=>
        have l1:its.toArray.size=ps.length:=by rw [List.size_toArray,<- v1.length,r.length]
        have l2:its2.toArray.size=qs.length:=by rw [List.size_toArray,<- v2.length,r2.length]
        have he:∀ j (h1:j < its.toArray.size) (h2:j < its2.toArray.size),EqAt A.in1 s its.toArray[j] its2.toArray[j] (peq (ps.getD j .non) (qs.getD j .non)):=fun j h1 h2=>by
          obtain ⟨x1,a1,b1⟩:=getD_of r v1 (j:=j) (by simpa using h1)
          obtain ⟨x2,a2,b2⟩:=getD_of r2 v2 (j:=j) (by simpa using h2)
          exact (ih I (good_getD gp j (by omega)) (good_getD gq j (by omega)) hin a1 b1 a2 b2).1
        have rc:=RcAt.tuples p1 p2 hu0 he
        have rn:=RcNeAt.tuples p1 p2 hu0 he
        rw [l1,l2,peqL_range] at rc rn
        refine ⟨?_,rc,rn⟩
        by_cases e:a=b
        · subst e
          have:peqL ps qs=true:=by
            rw [ha] at hb; cases hb
            exact repL_same gp gq r r2
          show EqAt A s _ _ (peqL ps qs)
          rw [this]
          exact EqAt.same _
        · exact EqAt.of_refs e rc
      | lst q qs b us its2 h r2 v2 p2=>rcases h with rfl | rfl <;> exact ⟨EqAt.tuple_list p1 p2 hu0,RcAt.tuple_list p1 p2 hu0,RcNeAt.tuple_list p1 p2 hu0⟩
    | lst p ps a vs its h r v1 p1=>cases k2 with
      | non=>rcases h with rfl | rfl <;> exact ⟨EqAt.list_none p1 hu0,RcAt.list_none p1 hu0,RcNeAt.list_none p1 hu0⟩
      | bl b=>rcases h with rfl | rfl <;> exact ⟨EqAt.list_bool _ p1 hu0,RcAt.list_bool _ p1 hu0,RcNeAt.list_bool _ p1 hu0⟩
      | int i t=>rcases h with rfl | rfl <;> exact ⟨EqAt.list_int _ _ p1 hu0,RcAt.list_int _ _ p1 hu0,RcNeAt.list_int _ _ p1 hu0⟩
      | str i t=>rcases h with rfl | rfl <;> exact ⟨EqAt.list_str _ _ p1 hu0,RcAt.list_str _ _ p1 hu0,RcNeAt.list_str _ _ p1 hu0⟩
      | tup qs b us its2 hb r2 v2 p2=>rcases h with rfl | rfl <;> exact ⟨EqAt.list_tuple p1 p2 hu0,RcAt.list_tuple p1 p2 hu0,RcNeAt.list_tuple p1 p2 hu0⟩
      | lst q qs b us its2 h2 r2 v2 p2=>
        have l1:its.toArray.size=ps.length:=by rw [List.size_toArray,<- v1.length,r.length]
        have l2:its2.toArray.size=qs.length:=by rw [List.size_toArray,<- v2.length,r2.length]
        have gp':ps.all (good n)=true:=by rcases h with rfl | rfl <;> exact gp
        have gq':qs.all (good n)=true:=by rcases h2 with rfl | rfl <;> exact gq
        have ep:peq p q=peqL ps qs:=by rcases h with rfl | rfl <;> rcases h2 with rfl | rfl <;> rfl
        have he:∀ j (h1:j < its.toArray.size) (h2:j < its2.toArray.size),EqAt A.in1 s its.toArray[j] its2.toArray[j] (peq (ps.getD j .non) (qs.getD j .non)):=fun j h1 h2=>by
          obtain ⟨x1,a1,b1⟩:=getD_of r v1 (j:=j) (by simpa using h1)
          obtain ⟨x2,a2,b2⟩:=getD_of r2 v2 (j:=j) (by simpa using h2)
          exact (ih I (good_getD gp' j (by omega)) (good_getD gq' j (by omega)) hin a1 b1 a2 b2).1
        rw [ep]
        have rcn:RcAt A s (.ref a) (.ref b) (peqL ps qs)/\RcNeAt A s (.ref a) (.ref b) (!peqL ps qs):=by
          by_cases e:ps.length=qs.length
          · have rc:=RcAt.lists p1 p2 (by rw [l1,l2,e]) hu0 he
            have rn:=RcNeAt.lists p1 p2 (by rw [l1,l2,e]) hu0 he
            rw [l1,<- peqL_all e] at rc rn
            exact ⟨rc,rn⟩
          · have e':(its.toArray.size != its2.toArray.size)=true:=by rw [l1,l2]; simpa using e
            rw [peqL_len e]
            exact ⟨RcAt.lists_lengths p1 p2 e' hu0,RcNeAt.lists_lengths p1 p2 e' hu0⟩
        refine ⟨?_,rcn.1,rcn.2⟩
        by_cases e:a=b
        · subst e
          have eq1:peq p q=true:=by
            have rp':=rp
            have rq':=rq
            have xa:x=.ref a:=by
              rcases h with rfl | rfl <;> (obtain ⟨b',_,rfl,_⟩:=rp; cases ru; rfl)
            have ya:y=.ref a:=by
              rcases h2 with rfl | rfl <;> (obtain ⟨b',_,rfl,_⟩:=rq; cases rv; rfl)
            subst xa; subst ya
            exact rep_same gp gq rp rq
          rw [<- ep,eq1]
          exact EqAt.same _
        · exact EqAt.of_refs e rcn.1
end
end Sm
namespace Sm
open PySem PySem.Spec L2
def lim:Nat:=1000000
theorem lim_le:lim<=sizeLine:=by decide
theorem le_lim {n:Nat} (h:n<=lim):n<=sizeLine:=Nat.le_trans h lim_le
def lstOf (st:Q0):PV->Option (List PV)
  | .lst xs=>some xs
  | .ref i=>match st[i]? with
    | some (.lst xs)=>some xs
    | _=>none
  | _=>none
def listOf (st:Q0):PV->Option (List PV)
  | .fro xs=>some xs
  | p=>lstOf st p
def seqOf (st:Q0):PV->Option (List PV)
  | .tup xs=>some xs
  | p=>listOf st p
def der (st:Q0):PV->PV
  | .ref i=>match st[i]? with
    | some (.lst xs)=>.lst xs
    | _=>.ref i
  | p=>p
section
variable {H:Hp} {ρ:Tk} {st:Q0} {p:PV} {v:V} {xs:List PV}
theorem lst_at (R:Rel H ρ st) (r:Rep H ρ p v) (e:lstOf st p=some xs):∃ a vs,v=.ref a/\H a=some (.lst vs)/\RepL H ρ xs vs:=by
  cases p with
  | lst ys=>
    obtain ⟨a,vs,e1,e2,_,e3⟩:=r
    cases e
    exact ⟨a,vs,e1,e2,e3⟩
  | ref i=>
    obtain ⟨a,e1,e2⟩:=r
    simp only [lstOf] at e
    split at e
    · rename_i ys hs
      cases e
      obtain ⟨b,vs,f1,f2,f3⟩:=R.lst hs
      rw [e1] at f1; cases f1
      exact ⟨a,vs,e2,f2,f3⟩
    · cases e
  | _=>cases e
theorem list_at (R:Rel H ρ st) (r:Rep H ρ p v) (e:listOf st p=some xs):∃ a vs,v=.ref a/\Rd H a (.lst vs)/\RepL H ρ xs vs:=by
  cases p with
  | fro ys=>
    obtain ⟨a,vs,e1,e2,_,e3⟩:=r
    cases e
    exact ⟨a,vs,e1,e2,e3⟩
  | _=>
    obtain ⟨a,vs,e1,e2,e3⟩:=lst_at R r e
    exact ⟨a,vs,e1,.inl e2,e3⟩
theorem seq_at {K:PySem.W.Frag} (R:Rel H ρ st) (r:Rep H ρ p v) (e:seqOf st p=some xs):∃ (t:Bool) (a:Addr) (vs:List V),v=.ref a/\SqK K t H a vs/\RepL H ρ xs vs:=by
  cases p with
  | tup ys=>
    obtain ⟨a,vs,e1,e2,_,e3⟩:=r
    cases e
    exact ⟨true,a,vs,e1,show SqT K H a vs from SqT.of e2,e3⟩
  | _=>
    obtain ⟨a,vs,e1,e2,e3⟩:=list_at R r e
    exact ⟨false,a,vs,e1,show SqL K H a vs from .inl e2,e3⟩
theorem sqK_or {K:PySem.W.Frag} {t:Bool} {a:Addr} {vs:List V} (h:SqK K t H a vs):SqL K H a vs\/SqT K H a vs:=by
  cases t with
  | true=>exact .inr h
  | false=>exact .inl h
mutual
theorem rep_nil:∀ {n:Nat} {q:PV} {u:V},good n q=true->Rep H ρ q u->Rep H Tk.nil q u
  | _,.non,_,_,r=>r
  | _,.bl _,_,_,r=>r
  | _,.int _,_,_,r=>r
  | _,.str _,_,_,r=>r
  | 0,.tup _,_,g,_=>by cases g
  | 0,.lst _,_,g,_=>by cases g
  | 0,.fro _,_,g,_=>by cases g
  | n + 1,.tup _,_,g,⟨a,vs,e,h,_,r⟩=>⟨a,vs,e,h,Tk.not_nil _,repL_nil g r⟩
  | n + 1,.lst _,_,g,⟨a,vs,e,h,_,r⟩=>⟨a,vs,e,h,Tk.not_nil _,repL_nil g r⟩
  | n + 1,.fro _,_,g,⟨a,vs,e,h,_,r⟩=>⟨a,vs,e,h,Tk.not_nil _,repL_nil g r⟩
  | 0,.ref _,_,g,_=>by cases g
  | _ + 1,.ref _,_,g,_=>by cases g
  | 0,.dic,_,g,_=>by cases g
  | _ + 1,.dic,_,g,_=>by cases g
theorem repL_nil:∀ {n:Nat} {qs:List PV} {us:List V},qs.all (good n)=true->RepL H ρ qs us->RepL H Tk.nil qs us
  | _,[],_,_,r=>r
  | n,q :: qs,_,g,⟨v,r,e,h1,h2⟩=>by
    rw [List.all_cons,Bool.and_eq_true] at g
    exact ⟨v,r,e,rep_nil g.1 h1,repL_nil g.2 h2⟩
end
theorem der_rep (R:Rel H ρ st) {n:Nat} (g:good n (der st p)=true) (r:Rep H ρ p v):Rep H Tk.nil (der st p) v:=by
  cases p with
  | ref i=>
    obtain ⟨a,e1,e2⟩:=r
    simp only [der] at g ⊢
    split at g
    · rename_i ys hs
      obtain ⟨b,vs,f1,f2,f3⟩:=R.lst hs
      rw [e1] at f1; cases f1
      cases n with
      | zero=>cases g
      | succ n=>exact ⟨a,vs,e2,f2,Tk.not_nil _,repL_nil g f3⟩
    · cases n <;> cases g
  | _=>exact rep_nil g r
theorem new_tup {mg:Str->Option Value} {E:XK} {Q:VK} {ps:List PV} {vs:List V} (R:Rel H ρ st) (h:Acc mg E H ρ (QV Q) (.ok (.tup ps) st)) (r:RepL H ρ ps vs):∀ p,H p=none->Q (.ref p) (upd H p (.tup vs)):=
  fun p hp=>h _ ρ (Ext.add hp) (R.add hp) _ ⟨p,vs,rfl,upd_same,R.fresh hp,r.ext (Ext.add hp)⟩
theorem new_lst {mg:Str->Option Value} {E:XK} {Q:VK} {ps:List PV} {vs:List V} (R:Rel H ρ st) (h:Acc mg E H ρ (QV Q) (.ok (.lst ps) st)) (r:RepL H ρ ps vs):∀ p,H p=none->Q (.ref p) (upd H p (.lst vs)):=
  fun p hp=>h _ ρ (Ext.add hp) (R.add hp) _ ⟨p,vs,rfl,upd_same,R.fresh hp,r.ext (Ext.add hp)⟩
theorem now {mg:Str->Option Value} {E:XK} {Q:VK} {p:PV} (R:Rel H ρ st) (h:Acc mg E H ρ (QV Q) (.ok p st)) (r:Rep H ρ p v):Q v H:=h H ρ (Ext.refl _ _) R v r
end
section
variable {X:Cx} {E:XK} {pos:Pos}
def Q5 (i:Nat):ME:=fun Γ st=>match Γ[i]? with
  | some (some p)=>.ok p st
  | _=>.stuck
def mC (p:PV):ME:=fun _ st=>.ok p st
theorem Q2 (i:Nat) {x:Str} (hN:X.N[i]?=some x:=by rfl) (hv:Vis X.env.scope x:=by first | exact Or.inl rfl | exact Or.inr (Or.inl rfl) | exact Or.inr (Or.inr rfl)) (hd:(x == ("__debug__" : Str))=false:=by decide)
    (hcd:(x == ("__classdict__" : Str))=false:=by decide):SimE X E (.Name x pos) (Q5 i):=⟨fun Γ σ H ρ st Q R G h=>WE.of (pe_var hN hv hd hcd) (by
  unfold Q5 at h
  split at h
  · rename_i p e
    obtain ⟨v,e1,r⟩:=G.2 i p e
    exact ⟨v,e1,now R h r⟩
  · exact h.elim)⟩
theorem Q9 {i:Int} {j:Nat}:SimE X E (.Constant (.int i) j pos) (mC (.int i)):=⟨fun Γ σ H ρ st Q R G h=>WE.of pe_int (now R h rfl)⟩
theorem se_bl {b:Bool} {j:Nat}:SimE X E (.Constant (.bool b) j pos) (mC (.bl b)):=⟨fun Γ σ H ρ st Q R G h=>WE.of pe_bl (now R h rfl)⟩
theorem se_non {j:Nat}:SimE X E (.Constant .none j pos) (mC .non):=⟨fun Γ σ H ρ st Q R G h=>WE.of pe_non (now R h rfl)⟩
theorem se_str {x:Str} {j:Nat}:SimE X E (.Constant (.str x) j pos) (mC (.str x)):=⟨fun Γ σ H ρ st Q R G h=>WE.of pe_str (now R h rfl)⟩
theorem se_gint {x:Str} {i:Int} {t:Tok} (hg:Gl X x) (hm:X.mg x=some (.int i t)) (hd:(x == ("__debug__" : Str))=false:=by decide):SimE X E (.Name x pos) (mC (.int i)):=
  ⟨fun Γ σ H ρ st Q R G h=>WE.of (pe_glob hg hm (v:=.int i) ⟨t,rfl⟩ hd) (now R h rfl)⟩
variable {a b c:Expr} {ma mb mc:ME}
def mOp (o:OP) (ma mb:ME):ME:=fun Γ st=>(ma Γ st).bind fun x st1=>(mb Γ st1).bind fun y st2=>o st2 x y
theorem bin_run {f:Value->Value->Sem Value} {o:OP} {Γ:Gam} {σ:St} {H:Hp} {ρ:Tk} {st:Q0} {P:PV->Q0->Hp->Tk->Prop} {Q:VK} (ho:OpS X E f o) (ha:SimE X E a ma) (hb:SimE X E b mb) (R:Rel H ρ st) (G:EnvR H ρ Γ σ) (h:Acc X.mg E H ρ P (mOp o ma mb Γ st))
    (k:∀ p st1 H1 ρ1 v,Ext H ρ H1 ρ1->Rel H1 ρ1 st1->Rep H1 ρ1 p v->P p st1 H1 ρ1->Q v H1):tOp (WO X f) (WE X a) (WE X b) σ H Q:=by
  refine ha.use R G h.bind fun p st1 H1 ρ1 v x1 R1 G1 r1 h1=>?_
  refine hb.use R1 G1 h1.bind fun q st2 H2 ρ2 u x2 R2 G2 r2 h2=>?_
  exact ho.use R2 (r1.ext x2) r2 h2 fun w st3 H3 ρ3 z x3 R3 r3 p3=>k w st3 H3 ρ3 z (x1.trans (x2.trans x3)) R3 r3 p3
theorem se_op {op:Operator} {o:OP} (ho:OpS X E (binaryOp op) o) (ha:SimE X E a ma) (hb:SimE X E b mb):SimE X E (.BinOp a op b pos) (mOp o ma mb):=
  ⟨fun Γ σ H ρ st Q R G h=>WE.of (pe_op op_w pe_w pe_w) (bin_run ho ha hb R G h fun _ _ _ _ v _ _ r q=>q v r)⟩
theorem se_cmp {op:CmpOp} {o:OP} (ho:OpS X E (compareOp op) o) (ha:SimE X E a ma) (hb:SimE X E b mb) (hm:behindInMarks op b=false:=by first | exact nomark _ | rfl):SimE X E (.Compare a [op] [b] pos) (mOp o ma mb):=
  ⟨fun Γ σ H ρ st Q R G h=>WE.of (pe_cmpR op_w pe_w pe_w hm) (bin_run ho ha hb R G h fun _ _ _ _ v _ _ r q=>q v r)⟩
def asB (p:PV) (st:Q0):Res Bool:=match p with
  | .bl k=>.ok k st
  | _=>.stuck
def toB (m:ME):Gam->Q0->Res Bool:=fun Γ st=>(m Γ st).bind asB
theorem acc_b {mg:Str->Option Value} {H:Hp} {ρ:Tk} {st:Q0} {p:PV} {v:V} {P:Bool->Q0->Hp->Tk->Prop} (R:Rel H ρ st) (r:Rep H ρ p v) (h:Acc mg E H ρ P (asB p st)):∃ k,v=.bl k/\P k st H ρ:=by
  cases p with
  | bl k=>exact ⟨k,r,h H ρ (Ext.refl _ _) R⟩
  | _=>exact h.elim
theorem st_cmp {op:CmpOp} {o:OP} (ho:OpS X E (compareOp op) o) (ha:SimE X E a ma) (hb:SimE X E b mb) (hm:behindInMarks op b=false:=by first | exact nomark _ | rfl):SimT X E (.Compare a [op] [b] pos) (toB (mOp o ma mb)):=
  ⟨fun Γ σ H ρ st Q R G h=>WT.of (pt_cmpR op_w pe_w pe_w hm) (bin_run ho ha hb R G h.bind fun _ st1 _ _ v _ R1 r q=>by
    obtain ⟨k,e,z⟩:=acc_b R1 r q
    exact ⟨k,e,z⟩)⟩
theorem st_val {e:Expr} {m:ME} (h:SimE X E e m) (he:∀ whole,isTrue e X.env whole=(do let v <- whole; standAt e.pos; holding [v] (truthy v)):=by intro _; rfl):SimT X E e (toB m):=
  ⟨fun Γ σ H ρ st Q R G hq=>WT.of (pt_val pe_w he) (h.use R G hq.bind fun p st1 H1 ρ1 v x1 R1 G1 r1 h1=>by
    obtain ⟨k,e,z⟩:=acc_b R1 r1 h1
    exact ⟨k,e,z⟩)⟩
def mChain (o o':OP) (ma mb mc:ME):ME:=fun Γ st=>(ma Γ st).bind fun x st1=>(mb Γ st1).bind fun y st2=>(o st2 x y).bind fun k st3=>match k with
  | .bl true=>(mc Γ st3).bind fun z st4=>o' st4 y z
  | .bl false=>.ok (.bl false) st3
  | _=>.stuck
theorem chain_run {op op':CmpOp} {o o':OP} {Γ:Gam} {σ:St} {H:Hp} {ρ:Tk} {st:Q0} {P:PV->Q0->Hp->Tk->Prop} {Q:VK} (ho:OpS X E (compareOp op) o) (ho':OpS X E (compareOp op') o') (ha:SimE X E a ma) (hb:SimE X E b mb) (hc:SimE X E c mc) (R:Rel H ρ st) (G:EnvR H ρ Γ σ) (h:Acc X.mg E H ρ P (mChain o o' ma mb mc Γ st))
    (k:∀ p st1 H1 ρ1 v,Ext H ρ H1 ρ1->Rel H1 ρ1 st1->Rep H1 ρ1 p v->P p st1 H1 ρ1->Q v H1):tChain (WO X (compareOp op)) (WO X (compareOp op')) (WE X a) (WE X b) (WE X c) σ H Q:=by
  refine ha.use R G h.bind fun p st1 H1 ρ1 v x1 R1 G1 r1 h1=>?_
  refine hb.use R1 G1 h1.bind fun q st2 H2 ρ2 u x2 R2 G2 r2 h2=>?_
  refine ho.use R2 (r1.ext x2) r2 h2.bind fun w st3 H3 ρ3 z x3 R3 r3 h3=>?_
  cases w with
  | bl b=>
    refine ⟨b,r3,?_⟩
    cases b with
    | true=>
      rw [if_pos rfl]
      refine hc.use R3 (G2.ext x3) h3.bind fun y st4 H4 ρ4 yv x4 R4 G4 r4 h4=>?_
      exact ho'.use R4 (r2.ext (x3.trans x4)) r4 h4 fun w st5 H5 ρ5 z x5 R5 r5 p5=>k w st5 H5 ρ5 z (x1.trans (x2.trans (x3.trans (x4.trans x5)))) R5 r5 p5
    | false=>
      rw [if_neg Bool.false_ne_true]
      exact k (.bl false) _ H3 ρ3 _ (x1.trans (x2.trans x3)) R3 rfl (h3 H3 ρ3 (Ext.refl _ _) R3)
  | _=>exact h3.elim
theorem se_chain {op op':CmpOp} {o o':OP} (ho:OpS X E (compareOp op) o) (ho':OpS X E (compareOp op') o') (ha:SimE X E a ma) (hb:SimE X E b mb) (hc:SimE X E c mc) (hm:lastMarks [op,op'] [b,c]=false:=by with_unfolding_all rfl):SimE X E (.Compare a [op,op'] [b,c] pos) (mChain o o' ma mb mc):=
  ⟨fun Γ σ H ρ st Q R G h=>WE.of (pe_chain op_w op_w pe_w pe_w pe_w hm) (chain_run ho ho' ha hb hc R G h fun _ _ _ _ v _ _ r q=>q v r)⟩
variable {rest:List Expr}
def mAnd (ma mb:ME):ME:=fun Γ st=>(ma Γ st).bind fun x st1=>match x with
  | .bl true=>mb Γ st1
  | .bl false=>.ok (.bl false) st1
  | _=>.stuck
def mOr (ma mb:ME):ME:=fun Γ st=>(ma Γ st).bind fun x st1=>match x with
  | .bl true=>.ok (.bl true) st1
  | .bl false=>mb Γ st1
  | _=>.stuck
def mNot (ma:ME):ME:=fun Γ st=>(ma Γ st).bind fun x st1=>match x with
  | .bl k=>.ok (.bl (!k)) st1
  | _=>.stuck
theorem se_one {op:BoolOp} (ha:SimE X E a ma):SimE X E (.BoolOp op [a] pos) ma:=⟨fun Γ σ H ρ st Q R G h=>WE.of (pe_one pe_w) (ha.use R G h fun _ _ _ _ v _ _ _ r q=>q v r)⟩
theorem se_and (ha:SimE X E a ma) (hb:SimE X E (.BoolOp .And (b :: rest) pos) mb):SimE X E (.BoolOp .And (a :: b :: rest) pos) (mAnd ma mb):=
  ⟨fun Γ σ H ρ st Q R G h=>WE.of (pe_and pe_w pe_w) (ha.use R G h.bind fun p st1 H1 ρ1 v x1 R1 G1 r1 h1=>by
    cases p with
    | bl k=>
      refine ⟨k,r1,?_⟩
      cases k with
      | true=>rw [if_pos rfl]; exact hb.use R1 G1 h1 fun _ _ _ _ v _ _ _ r q=>q v r
      | false=>rw [if_neg Bool.false_ne_true]; exact now R1 h1 rfl
    | _=>exact h1.elim)⟩
theorem se_not (ha:SimE X E a ma):SimE X E (.UnaryOp .Not a pos) (mNot ma):=
  ⟨fun Γ σ H ρ st Q R G h=>WE.of (pe_not pe_w) (ha.use R G h.bind fun p st1 H1 ρ1 v x1 R1 G1 r1 h1=>by
    cases p with
    | bl k=>exact ⟨k,r1,now R1 h1 rfl⟩
    | _=>exact h1.elim)⟩
def mNeg (ma:ME):ME:=fun Γ st=>(ma Γ st).bind fun x st1=>match x with
  | .int k=>.ok (.int (-k)) st1
  | _=>.stuck
theorem se_neg (ha:SimE X E a ma):SimE X E (.UnaryOp .USub a pos) (mNeg ma):=
  ⟨fun Γ σ H ρ st Q R G h=>WE.of (pe_un un_neg pe_w) (ha.use R G h.bind fun p st1 H1 ρ1 v x1 R1 G1 r1 h1=>by
    cases p with
    | int k=>exact ⟨k,r1,now R1 h1 rfl⟩
    | _=>exact h1.elim)⟩
abbrev MT:=Gam->Q0->Res Bool
variable {ta tb:MT}
def tAndM (ta tb:MT):MT:=fun Γ st=>(ta Γ st).bind fun k st1=>if k=true then tb Γ st1 else .ok false st1
def tOrM (ta tb:MT):MT:=fun Γ st=>(ta Γ st).bind fun k st1=>if k=true then .ok true st1 else tb Γ st1
def tNotM (ta:MT):MT:=fun Γ st=>(ta Γ st).bind fun k st1=>.ok (!k) st1
theorem SimW.t {e:Expr} (h:SimW X E e ta):SimT X E e ta:=⟨fun Γ σ H ρ st Q R G q pins s I=>h.run Γ σ H ρ st Q R G q _ pins s I⟩
theorem sw_and1 (ha:SimT X E a ta):SimW X E (.BoolOp .And [a] pos) ta:=⟨fun Γ σ H ρ st Q R G h=>WW.of (pw_and1 pt_w) (ha.use R G h fun _ _ _ _ _ _ _ q=>q)⟩
theorem sw_or1 (ha:SimT X E a ta):SimW X E (.BoolOp .Or [a] pos) ta:=⟨fun Γ σ H ρ st Q R G h=>WW.of (pw_or1 pt_w) (ha.use R G h fun _ _ _ _ _ _ _ q=>q)⟩
theorem sw_and (ha:SimT X E a ta) (hb:SimW X E (.BoolOp .And (b :: rest) pos) tb):SimW X E (.BoolOp .And (a :: b :: rest) pos) (tAndM ta tb):=
  ⟨fun Γ σ H ρ st Q R G h=>WW.of (pw_and pt_w pw_w) (ha.use R G h.bind fun k st1 H1 ρ1 x1 R1 G1 h1=>by
    cases k with
    | true=>rw [if_pos rfl] at h1 ⊢; exact hb.use R1 G1 h1 fun _ _ _ _ _ _ _ q=>q
    | false=>rw [if_neg Bool.false_ne_true] at h1 ⊢; exact h1 H1 ρ1 (Ext.refl _ _) R1)⟩
theorem sw_or (ha:SimT X E a ta) (hb:SimW X E (.BoolOp .Or (b :: rest) pos) tb):SimW X E (.BoolOp .Or (a :: b :: rest) pos) (tOrM ta tb):=
  ⟨fun Γ σ H ρ st Q R G h=>WW.of (pw_or pt_w pw_w) (ha.use R G h.bind fun k st1 H1 ρ1 x1 R1 G1 h1=>by
    cases k with
    | true=>rw [if_pos rfl] at h1 ⊢; exact h1 H1 ρ1 (Ext.refl _ _) R1
    | false=>rw [if_neg Bool.false_ne_true] at h1 ⊢; exact hb.use R1 G1 h1 fun _ _ _ _ _ _ _ q=>q)⟩
theorem st_not (ha:SimT X E a ta):SimT X E (.UnaryOp .Not a pos) (tNotM ta):=
  ⟨fun Γ σ H ρ st Q R G h=>WT.of (pt_not pt_w) (ha.use R G h.bind fun k st1 H1 ρ1 x1 R1 G1 h1=>h1 H1 ρ1 (Ext.refl _ _) R1)⟩
def mIf (tc:MT) (ma mb:ME):ME:=fun Γ st=>(tc Γ st).bind fun k st1=>if k=true then ma Γ st1 else mb Γ st1
variable {e:Expr} {es:List Expr} {m:ME} {mr:Gam->Q0->Res (List PV)}
def Qe:Gam->Q0->Res (List PV):=fun _ st=>.ok [] st
def Q4 (m:ME) (mr:Gam->Q0->Res (List PV)):Gam->Q0->Res (List PV):=fun Γ st=>(m Γ st).bind fun p st1=>(mr Γ st1).bind fun ps st2=>.ok (p :: ps) st2
theorem Q6:SimA X E [] Qe:=⟨fun Γ σ H ρ st Q R G h=>WA.of pa_nil (h H ρ (Ext.refl _ _) R [] rfl)⟩
theorem Q1 (ha:SimE X E e m) (hr:SimA X E es mr) (hs:starEach (e :: es) X.env=(false,eval e X.env) :: starEach es X.env:=by rfl):SimA X E (e :: es) (Q4 m mr):=
  ⟨fun Γ σ H ρ st Q R G h=>WA.of (pa_cons pe_w pa_w hs) (ha.use R G h.bind fun p st1 H1 ρ1 v x1 R1 G1 r1 h1=>hr.use R1 G1 h1.bind fun ps st2 H2 ρ2 vs x2 R2 G2 r2 h2=>
    h2 H2 ρ2 (Ext.refl _ _) R2 (v :: vs) ⟨v,vs,rfl,r1.ext x2,r2⟩)⟩
def mTup (mr:Gam->Q0->Res (List PV)):ME:=fun Γ st=>(mr Γ st).bind fun ps st1=>if ps.length<=lim then .ok (.tup ps) st1 else .stuck
def mLst (mr:Gam->Q0->Res (List PV)):ME:=fun Γ st=>(mr Γ st).bind fun ps st1=>if ps.length<=lim then .ok (.lst ps) st1 else .stuck
theorem se_tup {k:Nat} (h:SimA X E es mr):SimE X E (.Tuple es k pos) (mTup mr):=
  ⟨fun Γ σ H ρ st Q R G hq=>WE.of (pe_tup pa_w) (h.use R G hq.bind fun ps st1 H1 ρ1 vs x1 R1 G1 r1 h1=>by
    by_cases hl:ps.length<=lim
    · rw [if_pos hl] at h1
      exact ⟨by rw [<- r1.length]; exact le_lim hl,new_tup R1 h1 r1⟩
    · rw [if_neg hl] at h1; exact h1.elim)⟩
theorem se_lst (h:SimA X E es mr):SimE X E (.List es pos) (mLst mr):=
  ⟨fun Γ σ H ρ st Q R G hq=>WE.of (pe_lst pa_w) (h.use R G hq.bind fun ps st1 H1 ρ1 vs x1 R1 G1 r1 h1=>by
    by_cases hl:ps.length<=lim
    · rw [if_pos hl] at h1
      exact ⟨by rw [<- r1.length]; exact le_lim hl,new_lst R1 h1 r1⟩
    · rw [if_neg hl] at h1; exact h1.elim)⟩
end
end Sm
namespace HT
open PySem PySem.Spec PyProof.Rows
section
variable {prog:Program} {w:World} {A:Around} {E:Value->Shared->Prop} {s:Shared}
theorem getItem_tuple_whole {t sl:Addr} {items:Array Value} {vl vu:Value} {lo hi:Option Int} {Q:Value->Shared->Prop} (ht:IsTup s.heap t items) (hs:s.heap.IsSliceOf sl vl vu .none) (pl:IsPart vl lo) (pu:IsPart vu hi)
    (hw:sIx items.size 0 lo=0/\sIx items.size items.size hi=items.size)
    (h:Q (.ref t) s):wpAny (model prog w) A (getItem (.ref t) (.ref sl)) Q E s:=by
  obtain ⟨os,hos,hcs,hds⟩:=id hs
  have hTs:s.TypeIs (.ref sl) "slice" := ⟨os,hos,hcs⟩
  unfold getItem
  try with_reducible refine wpAny_holding ?_
  first | refine wpAny_bind (wpAny_pure ?_) | skip
  refine wpAny_bind (wpAny_sequenceKey ht.typeIs (by decide) ?_)
  refine wpAny_bind (wpAny_callSpecial?_slot (name:=Str.ofString "__getitem__") ht.typeIs PyProof.Rows.slot_tuple_getitem
    (wpAny_call_entry PyProof.Rows.slot_tuple_getitem ht.typeIs entry_tuple_getitem ?_ (args_tuple_getitem _ _)))
  show wpAny _ _ (Builtin.Tuple.tupleItemsOf (.ref t) >>= _) _ _ s
  refine wpAny_bind (tupleItemsOf_ ht ?_)
  refine wpAny_bind (wpAny_typeOf hTs ?_)
  rw [if_pos (by decide)]
  refine wpAny_bind (sliceApplied_gen hs pl pu ?_)
  have hyes:(((sIx items.size 0 lo:Nat):Int) == 0 && (1:Int) == 1 && (sIx items.size items.size hi - sIx items.size 0 lo) == items.size)=true:=by
    rw [hw.1,hw.2]; simp
  show wpAny _ _ (if (((sIx items.size 0 lo:Nat):Int) == 0 && (1:Int) == 1 && (sIx items.size items.size hi - sIx items.size 0 lo) == items.size)=true then _ else _) _ _ s
  rw [if_pos hyes]
  refine wpAny_bind (wpAny_bind (wpAny_typeOf ht.typeIs (wpAny_pure ?_)))
  rw [if_pos (by rfl)]
  exact wpAny_bind (wpAny_rule (wpAny_pure ⟨_,rfl,wpAny_pure h⟩))
end
end HT
namespace L2
open PySem PySem.Spec PyProof.Rows
def rSlW (K:PySem.W.Frag):V->Option Int->Option Int->Hp->VK->Prop:=fun x lo hi H Q=>∃ a xs,x=.ref a/\SqT K H a xs /\
  (HT.sIx xs.length 0 lo=0/\HT.sIx xs.length xs.length hi=xs.length)/\Q (.ref a) H
theorem sl_whole {X:Cx}:SlR X (rSlW X.K):=by
  intro pins s σ H x v vl vu lo hi sl Q I rx hs pl pu h
  obtain ⟨a,xs,rfl,hx,hw,q⟩:=h
  cases rx
  obtain ⟨its,r,ht,hz⟩:=I.tuple hx
  have hlen:its.toArray.size=xs.length:=by rw [List.size_toArray]; exact r.length.symm
  refine ⟨"tuple",_,PyProof.Rows.slot_tuple_getitem.lookup,ht.typeIs,?_⟩
  exact HT.getItem_tuple_whole ht hs pl pu (by rw [hlen]; exact hw) ⟨.ref a,H,I,rfl,q⟩
end L2
namespace Sm
open PySem PySem.Spec L2
section
variable {X:Cx} {E:XK} {pos:Pos}
def oI (g:Int->Int->PV):OP:=fun st p q=>match p,q with
  | .int a,.int b=>.ok (g a b) st
  | _,_=>.stuck
def oAdd:OP:=fun st p q=>match p,q with
  | .int a,.int b=>.ok (.int (a + b)) st
  | .str a,.str b=>if a.length + b.length<=lim then .ok (.str (a ++ b)) st else .stuck
  | .tup xs,.tup ys=>if xs.length + ys.length<=lim then .ok (.tup (xs ++ ys)) st else .stuck
  | p,q=>match lstOf st p,lstOf st q with
    | some xs,some ys=>if xs.length + ys.length<=lim then .ok (.lst (xs ++ ys)) st else .stuck
    | _,_=>.stuck
theorem os_add:OpS X E (binaryOp .Add) oAdd:=⟨fun H ρ st p q x y Q R rp rq h=>by
  unfold oAdd at h
  split at h
  · cases rp; cases rq
    exact WO.of op_add ⟨_,_,rfl,rfl,now R h rfl⟩
  · cases rp; cases rq
    split at h
    · rename_i hl
      exact WO.of op_add_str ⟨_,_,rfl,rfl,le_lim hl,now R h rfl⟩
    · exact h.elim
  · split at h
    · rename_i xs ys hl
      obtain ⟨a,vs,rfl,ha,na,ra⟩:=rp
      obtain ⟨b,us,rfl,hb,nb,rb⟩:=rq
      refine WO.of op_cat2 ?_
      by_cases e:xs=[]
      · subst e
        cases ra
        exact .inr ⟨a,b,us,rfl,rfl,SqT.of ha,SqT.of hb,now R h ⟨b,us,rfl,hb,nb,rb⟩⟩
      · refine .inl ⟨a,b,vs,us,rfl,rfl,SqT.of ha,SqT.of hb,fun z=>e ?_,by rw [<- ra.length,<- rb.length]; exact le_lim hl,fun z=>?_,fun z=>new_tup R h (ra.append rb)⟩
        · subst z
          cases xs with
          | nil=>rfl
          | cons _ _=>have:=ra.length; simp at this
        · subst z
          have:ys=[]:=by
            cases ys with
            | nil=>rfl
            | cons _ _=>have:=rb.length; simp at this
          subst this
          rw [List.append_nil] at h
          exact now R h ⟨a,vs,rfl,ha,na,ra⟩
    · exact h.elim
  · split at h
    · rename_i xs ys e1 e2
      split at h
      · rename_i hl
        obtain ⟨a,vs,rfl,ha,ra⟩:=lst_at R rp e1
        obtain ⟨b,us,rfl,hb,rb⟩:=lst_at R rq e2
        exact WO.of op_cat ⟨a,b,vs,us,rfl,rfl,ha,hb,by rw [<- ra.length,<- rb.length]; exact le_lim hl,new_lst R h (ra.append rb)⟩
      · exact h.elim
    · exact h.elim⟩
theorem os_sub:OpS X E (binaryOp .Sub) (oI fun a b=>.int (a - b)):=⟨fun H ρ st p q x y Q R rp rq h=>by
  unfold oI at h
  split at h
  · cases rp; cases rq
    exact WO.of op_sub ⟨_,_,rfl,rfl,now R h rfl⟩
  · exact h.elim⟩
def oMul:OP:=fun st p q=>match p,q with
  | .int a,.int b=>if (-(2 ^ 64) < a/\a < 2 ^ 64)\/(-(2 ^ 64) < b/\b < 2 ^ 64) then .ok (.int (a * b)) st else .stuck
  | .tup xs,.int b=>if xs ≠ []/\1<=b/\xs.length * b.toNat<=4096 then .ok (.tup (List.replicate b.toNat xs).flatten) st else .stuck
  | p,.int b=>match lstOf st p with
    | some xs=>if -(2 ^ 63)<=b/\b < 2 ^ 63/\xs.length * b.toNat<=lim then .ok (.lst (List.replicate b.toNat xs).flatten) st else .stuck
    | none=>.stuck
  | _,_=>.stuck
theorem os_mul:OpS X E (binaryOp .Mult) oMul:=⟨fun H ρ st p q x y Q R rp rq h=>by
  unfold oMul at h
  split at h
  · cases rp; cases rq
    split at h
    · rename_i hc
      exact WO.of op_mul ⟨_,_,rfl,rfl,hc,now R h rfl⟩
    · exact h.elim
  · cases rq
    split at h
    · rename_i xs b hc
      obtain ⟨a,vs,rfl,ha,na,ra⟩:=rp
      refine WO.of op_repT ⟨a,b,vs,rfl,rfl,SqT.of ha,fun z=>hc.1 ?_,hc.2.1,by rw [<- ra.length]; exact hc.2.2,fun z=>?_,fun z=>new_tup R h (ra.rep _)⟩
      · subst z
        cases xs with
        | nil=>rfl
        | cons _ _=>have:=ra.length; simp at this
      · subst z
        have e1:(List.replicate (Int.toNat 1) xs).flatten=xs:=by simp
        rw [e1] at h
        exact now R h ⟨a,vs,rfl,ha,na,ra⟩
    · exact h.elim
  · cases rq
    split at h
    · rename_i xs e1
      split at h
      · rename_i hc
        obtain ⟨a,vs,rfl,ha,ra⟩:=lst_at R rp e1
        exact WO.of op_rep ⟨a,_,vs,rfl,rfl,ha,hc.1,hc.2.1,by rw [<- ra.length]; exact le_lim hc.2.2,new_lst R h (ra.rep _)⟩
      · exact h.elim
    · exact h.elim
  · exact h.elim⟩
def oMod:OP:=fun st p q=>match p,q with
  | .int a,.int b=>if 0 < b then .ok (.int (a % b)) st else .stuck
  | _,_=>.stuck
theorem os_mod:OpS X E (binaryOp .Mod) oMod:=⟨fun H ρ st p q x y Q R rp rq h=>by
  unfold oMod at h
  split at h
  · cases rp; cases rq
    split at h
    · rename_i hc
      exact WO.of op_mod ⟨_,_,rfl,rfl,hc,now R h rfl⟩
    · exact h.elim
  · exact h.elim⟩
def oDiv:OP:=fun st p q=>match p,q with
  | .int a,.int b=>if 0 < b/\b < 1073741824 then .ok (.int (a / b)) st else .stuck
  | _,_=>.stuck
theorem os_div:OpS X E (binaryOp .FloorDiv) oDiv:=⟨fun H ρ st p q x y Q R rp rq h=>by
  unfold oDiv at h
  split at h
  · cases rp; cases rq
    split at h
    · rename_i hc
      exact WO.of op_fdiv ⟨_,_,rfl,rfl,hc,now R h rfl⟩
    · exact h.elim
  · exact h.elim⟩
def oPow:OP:=fun st p q=>match p,q with
  | .int a,.int b=>if 0<=b/\b<=1000000/\a.natAbs < 2 ^ 64 then .ok (.int (a ^ b.toNat)) st else .stuck
  | _,_=>.stuck
theorem os_pow:OpS X E (binaryOp .Pow) oPow:=⟨fun H ρ st p q x y Q R rp rq h=>by
  unfold oPow at h
  split at h
  · cases rp; cases rq
    split at h
    · rename_i hc
      exact WO.of op_pow ⟨_,_,rfl,rfl,hc,now R h rfl⟩
    · exact h.elim
  · exact h.elim⟩
theorem oI_cmp {op:CmpOp} {g:Int->Int->Bool} (ho:OpR X (compareOp op) (rI0 fun i j=>.bl (g i j))):OpS X E (compareOp op) (oI fun a b=>.bl (g a b)):=⟨fun H ρ st p q x y Q R rp rq h=>by
  unfold oI at h
  split at h
  · cases rp; cases rq
    exact WO.of ho ⟨_,_,rfl,rfl,now R h rfl⟩
  · exact h.elim⟩
theorem os_le:OpS X E (compareOp .LtE) (oI fun a b=>.bl (decide (a<=b))):=oI_cmp op_le
theorem os_gt:OpS X E (compareOp .Gt) (oI fun a b=>.bl (decide (b < a))):=oI_cmp op_gt
theorem os_ge:OpS X E (compareOp .GtE) (oI fun a b=>.bl (decide (b<=a))):=oI_cmp op_ge
def intsOf:List PV->Option (List Int)
  | []=>some []
  | .int i :: ps=>(intsOf ps).map (i :: ·)
  | _ :: _=>none
def blsOf:List PV->Option (List Bool)
  | []=>some []
  | .bl i :: ps=>(blsOf ps).map (i :: ·)
  | _ :: _=>none
theorem ints_map (ns:List Int):intsOf (ns.map .int)=some ns:=by
  induction ns with
  | nil=>rfl
  | cons n ns ih=>rw [List.map_cons,intsOf,ih]; rfl
theorem bls_map (ns:List Bool):blsOf (ns.map .bl)=some ns:=by
  induction ns with
  | nil=>rfl
  | cons n ns ih=>rw [List.map_cons,blsOf,ih]; rfl
theorem ints_eq:∀ {ps:List PV} {ns:List Int},intsOf ps=some ns->ps=ns.map .int
  | [],ns,h=>by cases h; rfl
  | .int i :: ps,ns,h=>by
    rw [intsOf] at h
    cases e:intsOf ps with
    | none=>rw [e] at h; cases h
    | some ms=>rw [e] at h; cases h; rw [ints_eq e]; rfl
  | .non :: _,_,h | .bl _ :: _,_,h | .str _ :: _,_,h | .tup _ :: _,_,h | .lst _ :: _,_,h | .fro _ :: _,_,h | .ref _ :: _,_,h | .dic :: _,_,h=>by cases h
theorem bls_eq:∀ {ps:List PV} {ns:List Bool},blsOf ps=some ns->ps=ns.map .bl
  | [],ns,h=>by cases h; rfl
  | .bl i :: ps,ns,h=>by
    rw [blsOf] at h
    cases e:blsOf ps with
    | none=>rw [e] at h; cases h
    | some ms=>rw [e] at h; cases h; rw [bls_eq e]; rfl
  | .non :: _,_,h | .int _ :: _,_,h | .str _ :: _,_,h | .tup _ :: _,_,h | .lst _ :: _,_,h | .fro _ :: _,_,h | .ref _ :: _,_,h | .dic :: _,_,h=>by cases h
def oLt:OP:=fun st p q=>match p,q with
  | .int a,.int b=>.ok (.bl (decide (a < b))) st
  | .tup xs,.tup ys=>match intsOf xs,intsOf ys with
    | some ns,some ms=>.ok (.bl (HT.lexLt ns ms)) st
    | _,_=>.stuck
  | _,_=>.stuck
theorem os_lt (hu:X.A.units + 64 < cLine):OpS X E (compareOp .Lt) oLt:=⟨fun H ρ st p q x y Q R rp rq h=>by
  unfold oLt at h
  split at h
  · cases rp; cases rq
    exact WO.of op_lt ⟨_,_,rfl,rfl,now R h rfl⟩
  · split at h
    · rename_i ns ms e1 e2
      obtain ⟨a,vs,rfl,ha,na,ra⟩:=rp
      obtain ⟨b,us,rfl,hb,nb,rb⟩:=rq
      rw [ints_eq e1] at ra
      rw [ints_eq e2] at rb
      rw [ra.toInts] at ha
      rw [rb.toInts] at hb
      exact WO.of (op_ltT (by omega)) ⟨a,b,ns,ms,rfl,rfl,SqT.of ha,SqT.of hb,now R h rfl⟩
    · exact h.elim
  · exact h.elim⟩
def dep:Nat:=12
def oEq:OP:=fun st p q=>if good dep (der st p)=true/\good dep (der st q)=true then .ok (.bl (peq (der st p) (der st q))) st else .stuck
def oNe:OP:=fun st p q=>if good dep (der st p)=true/\good dep (der st q)=true then .ok (.bl (!peq (der st p) (der st q))) st else .stuck
theorem os_eq (hu:X.A.units + 64 < cLine):OpS X E (compareOp .Eq) oEq:=⟨fun H ρ st p q x y Q R rp rq h=>by
  unfold oEq at h
  split at h
  · rename_i g
    intro pins s σ v u I rv ru
    exact (eqAts dep I g.1 g.2 (by unfold dep; omega) (der_rep R g.1 rp) rv (der_rep R g.2 rq) ru).2.1 _ _ _ _ ⟨.bl _,H,I,rfl,now R h rfl⟩
  · exact h.elim⟩
theorem os_ne (hu:X.A.units + 64 < cLine):OpS X E (compareOp .NotEq) oNe:=⟨fun H ρ st p q x y Q R rp rq h=>by
  unfold oNe at h
  split at h
  · rename_i g
    intro pins s σ v u I rv ru
    exact (eqAts dep I g.1 g.2 (by unfold dep; omega) (der_rep R g.1 rp) rv (der_rep R g.2 rq) ru).2.2 _ _ _ _ ⟨.bl _,H,I,rfl,now R h rfl⟩
  · exact h.elim⟩
def isNon:PV->Bool
  | .non=>true
  | _=>false
theorem isNon_rep {H:Hp} {ρ:Tk} {p:PV} {x:V} (r:Rep H ρ p x):decide (x=.non)=isNon p:=by
  cases p with
  | non=>cases r; rfl
  | bl _=>cases r; rfl
  | int _=>cases r; rfl
  | str _=>cases r; rfl
  | tup _=>obtain ⟨_,_,rfl,_⟩:=r; rfl
  | lst _=>obtain ⟨_,_,rfl,_⟩:=r; rfl
  | fro _=>obtain ⟨_,_,rfl,_⟩:=r; rfl
  | ref _=>obtain ⟨_,_,rfl⟩:=r; rfl
  | dic=>obtain ⟨_,rfl,_⟩:=r; rfl
def oIs:OP:=fun st p q=>match q with
  | .non=>.ok (.bl (isNon p)) st
  | .bl c=>match p with
    | .bl b=>.ok (.bl (b == c)) st
    | _=>.stuck
  | _=>.stuck
def oIsNot:OP:=fun st p q=>match q with
  | .non=>.ok (.bl (!isNon p)) st
  | .bl c=>match p with
    | .bl b=>.ok (.bl (b != c)) st
    | _=>.stuck
  | _=>.stuck
theorem os_is:OpS X E (compareOp .Is) oIs:=⟨fun H ρ st p q x y Q R rp rq h=>by
  unfold oIs at h
  split at h
  · cases rq
    refine WO.of op_isN ⟨rfl,?_⟩
    rw [isNon_rep rp]
    exact now R h rfl
  · split at h
    · cases rp; cases rq
      exact WO.of op_is_bl ⟨_,_,rfl,rfl,now R h rfl⟩
    · exact h.elim
  · exact h.elim⟩
theorem os_isnot:OpS X E (compareOp .IsNot) oIsNot:=⟨fun H ρ st p q x y Q R rp rq h=>by
  unfold oIsNot at h
  split at h
  · cases rq
    refine WO.of op_notN ⟨rfl,?_⟩
    rw [isNon_rep rp]
    exact now R h rfl
  · split at h
    · cases rp; cases rq
      exact WO.of op_isnot_bl ⟨_,_,rfl,rfl,now R h rfl⟩
    · exact h.elim
  · exact h.elim⟩
def oIn (neg:Bool):OP:=fun st p q=>match seqOf st q with
  | some xs=>if good dep (der st p)=true/\xs.all (good dep)=true then .ok (.bl ((xs.any fun y=>peq y (der st p)) != neg)) st else .stuck
  | none=>.stuck
open Classical in
theorem in_items {pins:List (Addr × Obj)} {σ:St} {H:Hp} {ρ:Tk} {s:Shared} {A:Around} {st:Q0} {p:PV} {xs:List PV} {x:V} {v:Value} {vs:List V} {its:List Value} (I:Inv X pins σ H s) (hu:A.units + dep < cLine) (R:Rel H ρ st)
    (gp:good dep (der st p)=true) (gx:xs.all (good dep)=true) (rp:Rep H ρ p x) (rv:RelV x v) (ra:RepL H ρ xs vs) (vi:Vals vs its):∃ e:Value->Bool,(∀ u,u ∈ its.toArray->SeqAt.EqAt A s u v (e u))/\its.toArray.any e=xs.any fun y=>peq y (der st p):=by
  have key:∀ u ∈ its,∃ q ∈ xs,∃ y,Rep H Tk.nil q y/\RelV y u:=fun u hu=>by
    obtain ⟨j,hj,rfl⟩:=List.getElem_of_mem hu
    have l1:=vi.length
    have l2:=ra.length
    obtain ⟨y,e1,e2⟩:=(repL_nil gx ra).get (List.getElem?_eq_getElem (show j < xs.length by omega))
    obtain ⟨w,e3,e4⟩:=vi.get e1
    rw [List.getElem?_eq_getElem hj] at e3; cases e3
    exact ⟨_,List.getElem_mem _,y,e2,e4⟩
  refine ⟨fun u=>decide (∃ q ∈ xs,∃ y,Rep H Tk.nil q y/\RelV y u/\peq q (der st p)=true),fun u hm=>?_,?_⟩
  · have hm':u ∈ its:=by simpa using hm
    by_cases z:∃ q ∈ xs,∃ y,Rep H Tk.nil q y/\RelV y u/\peq q (der st p)=true
    · show SeqAt.EqAt A s u v (decide _)
      rw [decide_eq_true z]
      obtain ⟨q,hq,y,r1,r2,e⟩:=z
      have:=(eqAts dep I ((List.all_eq_true.mp gx) q hq) gp hu r1 r2 (der_rep R gp rp) rv).1
      rw [e] at this
      exact this
    · show SeqAt.EqAt A s u v (decide _)
      rw [decide_eq_false z]
      obtain ⟨q,hq,y,r1,r2⟩:=key u hm'
      have:=(eqAts dep I ((List.all_eq_true.mp gx) q hq) gp hu r1 r2 (der_rep R gp rp) rv).1
      cases e:peq q (der st p) with
      | true=>exact absurd ⟨q,hq,y,r1,r2,e⟩ z
      | false=>rw [e] at this; exact this
  · rw [Bool.eq_iff_iff,Array.any_eq_true,List.any_eq_true]
    constructor
    · rintro ⟨j,hj,e⟩
      obtain ⟨q,hq,y,r1,r2,e⟩:=of_decide_eq_true e
      exact ⟨q,hq,e⟩
    · rintro ⟨q,hq,e⟩
      obtain ⟨j,hj,rfl⟩:=List.getElem_of_mem hq
      have l1:=vi.length
      have l2:=ra.length
      have hj':j < its.length:=by omega
      obtain ⟨y,e1,e2⟩:=(repL_nil gx ra).get (List.getElem?_eq_getElem hj)
      obtain ⟨w,e3,e4⟩:=vi.get e1
      refine ⟨j,by simpa using hj',decide_eq_true ⟨_,hq,y,e2,?_,e⟩⟩
      rw [List.getElem?_eq_getElem hj'] at e3; cases e3
      simpa using e4
theorem os_in (hu:X.A.units + 64 < cLine):OpS X E (compareOp .In) (oIn false):=⟨fun H ρ st p q x y Q R rp rq h=>by
  unfold oIn at h
  split at h
  · rename_i xs es
    split at h
    · rename_i g
      obtain ⟨t,a,vs,rfl,hq,ra⟩:=seq_at (K:=X.K) R rq es
      intro pins s σ v u I rv ru
      cases ru
      rw [Bool.bne_false] at h
      cases t with
      | true=>
        obtain ⟨its,r,pl,hz⟩:=I.tuple hq
        obtain ⟨e,he,ea⟩:=in_items (A:=X.A.in1) I (by show X.A.units + 1 + dep < cLine; unfold dep; omega) R g.1 g.2 rp rv ra r
        refine SeqAt.in_tupleAt e pl he ⟨.bl _,H,I,rfl,?_⟩
        rw [ea]
        exact now R h rfl
      | false=>
        obtain ⟨its,r,pl,hz⟩:=I.list hq
        obtain ⟨e,he,ea⟩:=in_items (A:=X.A.in1) I (by show X.A.units + 1 + dep < cLine; unfold dep; omega) R g.1 g.2 rp rv ra r
        refine SeqAt.in_listAt e pl.isList he ⟨.bl _,H,I,rfl,?_⟩
        rw [ea]
        exact now R h rfl
    · exact h.elim
  · exact h.elim⟩
theorem os_notin (hu:X.A.units + 64 < cLine):OpS X E (compareOp .NotIn) (oIn true):=⟨fun H ρ st p q x y Q R rp rq h=>by
  unfold oIn at h
  split at h
  · rename_i xs es
    split at h
    · rename_i g
      obtain ⟨t,a,vs,rfl,hq,ra⟩:=seq_at (K:=X.K) R rq es
      intro pins s σ v u I rv ru
      cases ru
      rw [Bool.bne_true] at h
      cases t with
      | true=>
        obtain ⟨its,r,pl,hz⟩:=I.tuple hq
        obtain ⟨e,he,ea⟩:=in_items (A:=X.A.in1) I (by show X.A.units + 1 + dep < cLine; unfold dep; omega) R g.1 g.2 rp rv ra r
        refine SeqAt.notIn_tupleAt e pl he ⟨.bl _,H,I,rfl,?_⟩
        rw [ea]
        exact now R h rfl
      | false=>
        obtain ⟨its,r,pl,hz⟩:=I.list hq
        obtain ⟨e,he,ea⟩:=in_items (A:=X.A.in1) I (by show X.A.units + 1 + dep < cLine; unfold dep; omega) R g.1 g.2 rp rv ra r
        refine SeqAt.notIn_listAt e pl.isList he ⟨.bl _,H,I,rfl,?_⟩
        rw [ea]
        exact now R h rfl
    · exact h.elim
  · exact h.elim⟩
end
end Sm
namespace Sm
open PySem PySem.Spec L2
section
variable {H:Hp} {ρ:Tk}
theorem RepL.atI {ps:List PV} {vs:List V} {i:Int} {p:PV} (r:RepL H ρ ps vs) (e:atI ps i=some p):∃ v,L2.atI vs i=some v/\Rep H ρ p v:=by
  unfold L2.atI at e ⊢
  rw [<- r.length]
  cases q:ixN ps.length i with
  | none=>rw [q] at e; cases e
  | some j=>
    rw [q] at e
    exact r.get e
def cut {α:Type} (xs:List α) (lo hi:Option Int):List α:=(xs.drop (HT.sIx xs.length 0 lo)).take (HT.sIx xs.length xs.length hi - HT.sIx xs.length 0 lo)
theorem RepL.cut {ps:List PV} {vs:List V} (r:RepL H ρ ps vs) (lo hi:Option Int):RepL H ρ (Sm.cut ps lo hi) (cutV vs lo hi):=by
  unfold Sm.cut cutV
  rw [<- r.length]
  exact (r.drop _).take _
end
section
variable {X:Cx} {E:XK} {pos:Pos} {a b:Expr} {ma mb:ME}
def oIx:OP:=fun st p q=>match seqOf st p,q with
  | some xs,.int i=>okO st (atI xs i)
  | _,_=>.stuck
theorem se_ix (ha:SimE X E a ma) (hb:SimE X E b mb) (hs:PlainIx b:=by exact fun _ _=>rfl):SimE X E (.Subscript a b pos) (mOp oIx ma mb):=
  ⟨fun Γ σ H ρ st Q R G h=>WE.of (pe_ix ix_seq pe_w pe_w hs) (ha.use R G h.bind fun p st1 H1 ρ1 v x1 R1 G1 r1 h1=>hb.use R1 G1 h1.bind fun q st2 H2 ρ2 u x2 R2 G2 r2 h2=>by
    unfold oIx at h2
    split at h2
    · rename_i xs i e
      cases r2
      cases ea:atI xs i with
      | none=>rw [ea] at h2; exact h2.elim
      | some w=>
        rw [ea] at h2
        obtain ⟨t,b,vs,rfl,hq,ra⟩:=seq_at (K:=X.K) R2 (r1.ext x2) e
        obtain ⟨z,ez,rz⟩:=ra.atI ea
        cases t with
        | true=>exact .inr (.inl ⟨b,vs,i,z,rfl,rfl,hq,ez,now R2 h2 rz⟩)
        | false=>exact .inl ⟨b,vs,i,z,rfl,rfl,hq,ez,now R2 h2 rz⟩
    · exact h2.elim)⟩
structure SimO (X:Cx) (E:XK) (o:Option Expr) (m:Gam->Q0->Res (Option Int)):Prop where
  run:∀ (Γ:Gam) (σ:St) (H:Hp) (ρ:Tk) (st:Q0) (P:Option Int->Q0->Hp->Tk->Prop) (Q:Option Int->Hp->Prop),Rel H ρ st->EnvR H ρ Γ σ->Acc X.mg E H ρ P (m Γ st) ->
    (∀ i st1 H1 ρ1,Ext H ρ H1 ρ1->Rel H1 ρ1 st1->EnvR H1 ρ1 Γ σ->P i st1 H1 ρ1->Q i H1)->∃ t,PO X o t/\t σ H Q
def mNoPart:Gam->Q0->Res (Option Int):=fun _ st=>.ok none st
def mPart (m:ME):Gam->Q0->Res (Option Int):=fun Γ st=>(m Γ st).bind fun p st1=>match p with
  | .int i=>.ok (some i) st1
  | _=>.stuck
theorem so_none:SimO X E none mNoPart:=⟨fun Γ σ H ρ st P Q R G h k=>⟨_,po_none,k none st H ρ (Ext.refl _ _) R G (h H ρ (Ext.refl _ _) R)⟩⟩
theorem so_some (ha:SimE X E a ma):SimO X E (some a) (mPart ma):=⟨fun Γ σ H ρ st P Q R G h k=>⟨_,po_some pe_w,ha.use R G h.bind fun p st1 H1 ρ1 v x1 R1 G1 r1 h1=>by
  cases p with
  | int i=>exact ⟨i,r1,k (some i) st1 H1 ρ1 x1 R1 G1 (h1 H1 ρ1 (Ext.refl _ _) R1)⟩
  | _=>exact h1.elim⟩⟩
def oSl (st:Q0) (p:PV) (lo hi:Option Int):Res PV:=match p with
  | .tup xs=>.ok (.tup (cut xs lo hi)) st
  | p=>match listOf st p with
    | some xs=>.ok (.lst (cut xs lo hi)) st
    | none=>.stuck
def mSl (ma:ME) (ml mh:Gam->Q0->Res (Option Int)):ME:=fun Γ st=>(ma Γ st).bind fun p st1=>(ml Γ st1).bind fun lo st2=>(mh Γ st2).bind fun hi st3=>oSl st3 p lo hi
def TO.w (X:Cx) (o:Option Expr):TO:=fun σ H Q=>∃ t,PO X o t/\t σ H Q
theorem po_w {o:Option Expr}:PO X o (TO.w X o):=fun pins s σ H Q I ⟨t,h,q⟩=>h pins s σ H Q I q
theorem se_slice {lo hi:Option Expr} {ml mh:Gam->Q0->Res (Option Int)} {p2:Pos} (ha:SimE X E a ma) (hl:SimO X E lo ml) (hh:SimO X E hi mh):SimE X E (.Subscript a (.Slice lo hi none p2) pos) (mSl ma ml mh):=
  ⟨fun Γ σ H ρ st Q R G h=>WE.of (pe_slice (sl_tup.or (sl_whole.or sl_list)) pe_w po_w po_w) (ha.use R G h.bind fun p st1 H1 ρ1 v x1 R1 G1 r1 h1=>by
    refine hl.run Γ σ H1 ρ1 st1 _ _ R1 G1 h1.bind fun l st2 H2 ρ2 x2 R2 G2 h2=>?_
    refine hh.run Γ σ H2 ρ2 st2 _ _ R2 G2 h2.bind fun u st3 H3 ρ3 x3 R3 G3 h3=>?_
    have r3:=r1.ext (x2.trans x3)
    unfold oSl at h3
    split at h3
    · rename_i xs
      obtain ⟨a,vs,rfl,ha,na,ra⟩:=r3
      by_cases hw:HT.sIx vs.length 0 l=0/\HT.sIx vs.length vs.length u=vs.length
      · refine .inr (.inl ⟨a,vs,rfl,SqT.of ha,hw,?_⟩)
        have e:cut xs l u=xs:=by
          unfold cut
          rw [ra.length,hw.1,hw.2,List.drop_zero,Nat.sub_zero,<- ra.length,List.take_length]
        rw [e] at h3
        exact now R3 h3 ⟨a,vs,rfl,ha,na,ra⟩
      · exact .inl ⟨a,vs,rfl,SqT.of ha,hw,new_tup R3 h3 (ra.cut l u)⟩
    · split at h3
      · rename_i xs e
        obtain ⟨a,vs,rfl,ha,ra⟩:=list_at R3 r3 e
        exact .inr (.inr ⟨a,vs,rfl,.inl ha,new_lst R3 h3 (ra.cut l u)⟩)
      · exact h3.elim)⟩
variable {es:List Expr} {e:Expr} {mr:Gam->Q0->Res (List PV)}
def mCall (o:CF) (mr:Gam->Q0->Res (List PV)):ME:=fun Γ st=>(mr Γ st).bind fun ps st1=>o st1 ps
theorem CallS.use {f:Value} {o:CF} (s:CallS X E f o) {P:PV->Q0->Hp->Tk->Prop} {Q:VK} {H:Hp} {ρ:Tk} {st:Q0} {ps:List PV} {xs:List V} (R:Rel H ρ st) (rp:RepL H ρ ps xs) (h:Acc X.mg E H ρ P (o st ps))
    (k:∀ p st1 H1 ρ1 v,Ext H ρ H1 ρ1->Rel H1 ρ1 st1->Rep H1 ρ1 p v->P p st1 H1 ρ1->Q v H1):WC X f xs H Q:=by
  refine s.run H ρ st ps xs Q R rp ?_
  cases r:o st ps with
  | ok p st1=>rw [r] at h; exact fun H' ρ' x' R' v rv=>k p st1 H' ρ' v x' R' rv (h H' ρ' x' R')
  | exc e st=>rw [r] at h; exact h
  | stuck=>rw [r] at h; exact h
theorem se_callB {id:String} {x:Str} {p:Pos} {o:CF} (hc:CallS X E (.builtin id) o) (hg:Gl X x) (hm:X.mg x=none) (hv:bootBuiltins x=some (.builtin id)) (ha:SimA X E (e :: es) mr) (hn:x ≠ "__name__" := by decide) (hdb:(x == ("__debug__" : Str))=false:=by decide)
    (he:starEach (e :: es) X.env=(false,eval e X.env) :: starEach es X.env:=by rfl) (hpl:(backTo pos (starEach es X.env)).any (·.1)=false:=by rfl):SimE X E (.Call (.Name x p) (e :: es) [] pos) (mCall o mr):=
  ⟨fun Γ σ H ρ st Q R G h=>WE.of (pe_callB call_w hg hm hv pa_w hn hdb he hpl) (ha.use R G h.bind fun ps st1 H1 ρ1 vs x1 R1 G1 r1 h1=>hc.use R1 r1 h1 fun _ _ _ _ v _ _ r q=>q v r)⟩
theorem se_callT {T:String} {x:Str} {p:Pos} {o:CF} (hc:CallS X E (.type T) o) (hg:Gl X x) (hm:X.mg x=none) (hv:bootBuiltins x=some (.type T)) (ha:SimA X E (e :: es) mr) (hn:x ≠ "__name__" := by decide) (hdb:(x == ("__debug__" : Str))=false:=by decide)
    (he:starEach (e :: es) X.env=(false,eval e X.env) :: starEach es X.env:=by rfl) (hpl:(backTo pos (starEach es X.env)).any (·.1)=false:=by rfl):SimE X E (.Call (.Name x p) (e :: es) [] pos) (mCall o mr):=
  ⟨fun Γ σ H ρ st Q R G h=>WE.of (pe_callTy call_w hg hm hv pa_w hn hdb he hpl) (ha.use R G h.bind fun ps st1 H1 ρ1 vs x1 R1 G1 r1 h1=>hc.use R1 r1 h1 fun _ _ _ _ v _ _ r q=>q v r)⟩
theorem repL_one {H:Hp} {ρ:Tk} {p:PV} {xs:List V} (r:RepL H ρ [p] xs):∃ v,xs=[v]/\Rep H ρ p v:=by
  obtain ⟨v,t,rfl,h1,h2⟩:=r
  cases h2
  exact ⟨v,rfl,h1⟩
theorem repL_two {H:Hp} {ρ:Tk} {p q:PV} {xs:List V} (r:RepL H ρ [p,q] xs):∃ v u,xs=[v,u]/\Rep H ρ p v/\Rep H ρ q u:=by
  obtain ⟨v,t,rfl,h1,h2⟩:=r
  obtain ⟨u,rfl,h3⟩:=repL_one h2
  exact ⟨v,u,rfl,h1,h3⟩
def cLen:CF:=fun st ps=>match ps with
  | [p]=>match seqOf st p with
    | some xs=>.ok (.int xs.length) st
    | none=>match p with
      | .str x=>if x.length<=lim then .ok (.int x.length) st else .stuck
      | _=>.stuck
  | _=>.stuck
theorem cs_len:CallS X E (.builtin "len") cLen:=⟨fun H ρ st ps xs Q R rp h=>by
  unfold cLen at h
  split at h
  · rename_i p
    obtain ⟨v,rfl,r⟩:=repL_one rp
    split at h
    · rename_i ys e
      obtain ⟨t,a,vs,rfl,hq,ra⟩:=seq_at (K:=X.K) R r e
      rw [ra.length] at h
      exact WC.of call_len_seq ⟨a,vs,rfl,sqK_or hq,now R h rfl⟩
    · split at h
      · cases r
        split at h
        · rename_i hl
          exact WC.of call_len_str ⟨_,rfl,le_lim hl,now R h rfl⟩
        · exact h.elim
      · exact h.elim
  · exact h.elim⟩
def cInts (g:List Int->Option PV):CF:=fun st ps=>match ps with
  | [p]=>match (seqOf st p).bind intsOf with
    | some ns=>okO st (g ns)
    | none=>.stuck
  | _=>.stuck
def cBls (g:List Bool->PV):CF:=fun st ps=>match ps with
  | [p]=>match (seqOf st p).bind blsOf with
    | some ns=>.ok (g ns) st
    | none=>.stuck
  | _=>.stuck
theorem bls_at' {K:PySem.W.Frag} {H:Hp} {ρ:Tk} {st:Q0} {p:PV} {v:V} {ns:List Bool} (R:Rel H ρ st) (r:Rep H ρ p v) (e:(seqOf st p).bind blsOf=some ns):∃ (t:Bool) (a:Addr),v=.ref a/\SqK K t H a (ns.map V.bl):=by
  cases q:seqOf st p with
  | none=>rw [q] at e; cases e
  | some xs=>
    rw [q] at e
    obtain ⟨t,a,vs,rfl,hq,ra⟩:=seq_at (K:=K) R r q
    rw [bls_eq e] at ra
    rw [ra.toBls] at hq
    exact ⟨t,a,rfl,hq⟩
theorem cs_all (hc:X.calm=true):CallS X E (.builtin "all") (cBls fun ns=>.bl (ns.all id)):=⟨fun H ρ st ps xs Q R rp h=>by
  unfold cBls at h
  split at h
  · obtain ⟨v,rfl,r⟩:=repL_one rp
    split at h
    · rename_i ns e
      obtain ⟨t,a,rfl,hq⟩:=bls_at' (K:=X.K) R r e
      exact WC.of (call_all t hc) ⟨a,ns,rfl,hq,now R h rfl⟩
    · exact h.elim
  · exact h.elim⟩
theorem cs_any (hc:X.calm=true):CallS X E (.builtin "any") (cBls fun ns=>.bl (ns.any id)):=⟨fun H ρ st ps xs Q R rp h=>by
  unfold cBls at h
  split at h
  · obtain ⟨v,rfl,r⟩:=repL_one rp
    split at h
    · rename_i ns e
      obtain ⟨t,a,rfl,hq⟩:=bls_at' (K:=X.K) R r e
      exact WC.of (call_any t hc) ⟨a,ns,rfl,hq,now R h rfl⟩
    · exact h.elim
  · exact h.elim⟩
def maxI:List Int->Option Int
  | []=>none
  | n :: ns=>some (ns.foldl (fun a b=>if b > a then b else a) n)
def minI:List Int->Option Int
  | []=>none
  | n :: ns=>some (ns.foldl (fun a b=>if b < a then b else a) n)
def cMax:CF:=fun st ps=>match ps with
  | [.int a,.int b]=>.ok (.int (if b > a then b else a)) st
  | ps=>cInts (fun ns=>(maxI ns).map .int) st ps
def cMin:CF:=fun st ps=>match ps with
  | [.int a,.int b]=>.ok (.int (if b < a then b else a)) st
  | ps=>cInts (fun ns=>(minI ns).map .int) st ps
def cList:CF:=fun st ps=>match ps with
  | [p]=>match seqOf st p with
    | some xs=>.ok (.lst xs) st
    | none=>.stuck
  | _=>.stuck
def cTuple:CF:=fun st ps=>match ps with
  | [p]=>match seqOf st p with
    | some xs=>.ok (.tup xs) st
    | none=>.stuck
  | _=>.stuck
theorem cs_tuple:CallS X E (.type "tuple") cTuple:=⟨fun H ρ st ps xs Q R rp h=>by
  unfold cTuple at h
  split at h
  · rename_i p
    obtain ⟨v,rfl,r⟩:=repL_one rp
    split at h
    · rename_i ys e
      cases p with
      | tup zs=>
        cases e
        obtain ⟨a,vs,rfl,ha,na,ra⟩:=r
        exact WC.of call_tuple_of ⟨a,vs,rfl,.inr ⟨SqT.of ha,now R h ⟨a,vs,rfl,ha,na,ra⟩⟩⟩
      | _=>
        obtain ⟨a,vs,rfl,ha,ra⟩:=list_at R r e
        exact WC.of call_tuple_of ⟨a,vs,rfl,.inl ⟨.inl ha,new_tup R h ra⟩⟩
    · exact h.elim
  · exact h.elim⟩
def cAbs:CF:=fun st ps=>match ps with
  | [.int a]=>.ok (.int (if a < 0 then -a else a)) st
  | _=>.stuck
def tyN:PV->String
  | .non => "NoneType"
  | .bl _ => "bool"
  | .int _ => "int"
  | .str _ => "str"
  | .tup _ => "tuple"
  | .lst _ => "list"
  | .fro _ => "list"
  | .ref _ => "list"
  | .dic => "dict"
def dpv (st:Q0):PV->PV
  | .ref i=>match st[i]? with
    | some (.dic _)=>.dic
    | some (.dtp _)=>.dic
    | _=>.ref i
  | p=>p
def isI (T:String) (p:PV):Bool:=tyN p == T || (T == "int" && tyN p == "bool")
def frzd (st:Q0):PV->Bool
  | .ref i=>match st[i]? with
    | some (.frd _)=>true
    | _=>false
  | _=>false
theorem ty_of {K:PySem.W.Frag} {H:Hp} {ρ:Tk} {st:Q0} {p:PV} {v:V} (nf:frzd st p=false) (R:Rel H ρ st) (r:Rep H ρ p v):TyOf K H v (.type (tyN (dpv st p))):=by
  cases p with
  | non=>cases r; exact .non
  | bl b=>cases r; exact .bl b
  | int i=>cases r; exact .int i
  | str x=>cases r; exact .str x
  | tup ps=>obtain ⟨a,vs,rfl,h,_⟩:=r; exact .tup h
  | lst ps=>obtain ⟨a,vs,rfl,h,_⟩:=r; exact .lst h
  | fro ps=>
    obtain ⟨a,vs,rfl,h,_⟩:=r
    rcases h with h | ⟨o,h⟩
    · exact .lst h
    · exact .frz h
  | ref i=>
    obtain ⟨a,e,rfl⟩:=r
    have hl:i < st.length:=by rw [<- R.len]; exact (List.getElem?_eq_some_iff.mp e).1
    have hs:=List.getElem?_eq_getElem hl
    have q:=R.cell i a st[i] e hs
    cases hc:st[i] with
    | lst xs=>rw [hc] at q hs; simp only [dpv,hs]; obtain ⟨vs,h,_⟩:=q; exact .lst h
    | dic xs=>rw [hc] at q hs; simp only [dpv,hs]; obtain ⟨vs,h,_⟩:=q; exact .dK h
    | dtp xs=>rw [hc] at q hs; simp only [dpv,hs]; obtain ⟨vs,h,_⟩:=q; exact .dT h
    | frd xs=>rw [hc] at hs; simp only [frzd,hs] at nf; cases nf
  | dic=>obtain ⟨a,rfl,h,_⟩:=r; exact .dK h
def kitTypes:List String:=["int", "bool", "str", "tuple", "list", "dict"]
theorem kit_ok (K:PySem.W.Frag) {T:String} (hT:T ∈ kitTypes) (p:PV):PySem.W.kitOne K (.type (tyN p)) (.type T)=some (isI T p):=by
  have hT:T = "int" \/ T = "bool" \/ T = "str" \/ T = "tuple" \/ T = "list" \/ T = "dict" := by simpa [kitTypes] using hT
  rcases hT with rfl | rfl | rfl | rfl | rfl | rfl <;> cases p <;> first | rfl | kernel_rfl
def mIsI (T:String) (m:ME):ME:=fun Γ st=>(m Γ st).bind fun p st1=>if frzd st1 p=true then .stuck else .ok (.bl (isI T (dpv st1 p))) st1
theorem se_isi {T:String} {tx:Str} {a:Expr} {ma:ME} {p tp:Pos} (hT:T ∈ kitTypes) (ha:SimE X E a ma) (hg:Gl X "isinstance") (hm:X.mg "isinstance" = none) (hgT:Gl X tx) (hmT:X.mg tx=none) (hvT:bootBuiltins tx=some (.type T))
    (hn:tx ≠ "__name__" := by decide) (hd:(tx == ("__debug__" : Str))=false:=by decide)
    (he:starEach [a,.Name tx tp] X.env=(false,eval a X.env) :: starEach [.Name tx tp] X.env:=by rfl) (he2:starEach [.Name tx tp] X.env=(false,eval (.Name tx tp) X.env) :: starEach [] X.env:=by rfl) (hpl:(backTo pos (starEach [.Name tx tp] X.env)).any (·.1)=false:=by rfl) :
    SimE X E (.Call (.Name "isinstance" p) [a,.Name tx tp] [] pos) (mIsI T ma):=
  ⟨fun Γ σ H ρ st Q R G h=>WE.of (pe_callB call_isinst hg hm boot_isinstance (pa_cons pe_w (pa_cons (pe_bltn hgT hmT hvT (v:=.ty T) rfl hn hd) pa_nil he2) he) (by decide) (by decide) he hpl)
    (ha.use R G h.bind fun q st1 H1 ρ1 v x1 R1 G1 r1 h1=>by
      by_cases nf:frzd st1 q=true
      · rw [if_pos nf] at h1; exact h1.elim
      · rw [if_neg nf] at h1
        exact ⟨v,.ty T,.type T,_,_,rfl,rfl,ty_of (by simpa using nf) R1 r1,kit_ok X.K hT (dpv st1 q),now R1 h1 rfl⟩)⟩
end
end Sm
namespace Sm
open PySem PySem.Spec L2
abbrev GA:=PV->Gam->Option Gam
abbrev GAs:=List PV->Gam->Option Gam
structure SimG (X:Cx) (tg:Expr) (ga:GA):Prop where
  run:∀ (Γ Γ':Gam) (σ:St) (H:Hp) (ρ:Tk) (p:PV) (v:V) (Q:St->Hp->Prop),EnvR H ρ Γ σ->Rep H ρ p v->ga p Γ=some Γ'->(∀ σ',EnvR H ρ Γ' σ'->Q σ' H)->∃ t,PG X tg t/\t v σ H Q
structure SimGs (X:Cx) (tgs:List Expr) (n:Nat) (ga:GAs):Prop where
  run:∀ (Γ Γ':Gam) (σ:St) (H:Hp) (ρ:Tk) (ps:List PV) (vs:List V) (Q:St->Hp->Prop),EnvR H ρ Γ σ->RepL H ρ ps vs->ga ps Γ=some Γ'->(∀ σ',EnvR H ρ Γ' σ'->Q σ' H)->∃ t,PGs X tgs t/\t vs σ H Q
  len:∀ ps Γ Γ',ga ps Γ=some Γ'->ps.length=n
def gaName (i:Nat):GA:=fun p Γ=>some (Γ.set i (some p))
def gaNil:GAs:=fun ps Γ=>match ps with
  | []=>some Γ
  | _=>none
def gaCons (g:GA) (gs:GAs):GAs:=fun ps Γ=>match ps with
  | p :: r=>(g p Γ).bind (gs r)
  | []=>none
def gaTup (gs:GAs):GA:=fun p Γ=>match p with
  | .tup ps=>gs ps Γ
  | _=>none
section
variable {X:Cx} {pos:Pos}
theorem sg_name {i:Nat} {x:Str} (hN:X.N.Nodup) (hi:X.N[i]?=some x:=by rfl) (hx:Loc X.env.scope x:=by first | exact Or.inl rfl | exact Or.inr rfl) (hf:X.fn x=true\/X.env.scope.names.lookup x=some .local:=by first | exact .inl rfl | exact .inr rfl):SimG X (.Name x pos) (gaName i):=
  ⟨fun Γ Γ' σ H ρ p v Q G r e k=>⟨_,pg_name hN hi hx hf,by cases e; exact k _ (G.set r i)⟩⟩
theorem sgs_nil:SimGs X [] 0 gaNil:=⟨fun Γ Γ' σ H ρ ps vs Q G r e k=>⟨_,pgs_nil,by
  cases ps with
  | nil=>cases e; cases r; exact ⟨rfl,k σ G⟩
  | cons _ _=>cases e⟩,fun ps Γ Γ' e=>by
  cases ps with
  | nil=>rfl
  | cons _ _=>cases e⟩
def WGx (X:Cx) (tg:Expr):TG:=fun v σ H Q=>∃ t,PG X tg t/\t v σ H Q
theorem pg_x {tg:Expr}:PG X tg (WGx X tg):=fun pins s σ H v u Q I r ⟨t,h,q⟩=>h pins s σ H v u Q I r q
def WGsx (X:Cx) (tgs:List Expr):TGs:=fun v σ H Q=>∃ t,PGs X tgs t/\t v σ H Q
theorem pgs_x {tgs:List Expr}:PGs X tgs (WGsx X tgs):=fun pins s σ H v u Q I r ⟨t,h,q⟩=>h pins s σ H v u Q I r q
theorem sgs_cons {e:Expr} {es:List Expr} {g:GA} {gs:GAs} {n:Nat} (h1:SimG X e g) (h2:SimGs X es n gs) (hs:(assignEach (e :: es) X.env).map (·.2)=assign e X.env :: (assignEach es X.env).map (·.2):=by rfl):SimGs X (e :: es) (n + 1) (gaCons g gs):=
  ⟨fun Γ Γ' σ H ρ ps vs Q G r eq k=>⟨_,pgs_cons pg_x pgs_x hs,by
    cases ps with
    | nil=>cases eq
    | cons p ps=>
      obtain ⟨v,t,rfl,r1,r2⟩:=r
      have eq:(g p Γ).bind (gs ps)=some Γ':=eq
      cases e1:g p Γ with
      | none=>rw [e1] at eq; cases eq
      | some Γ1=>
        rw [e1] at eq
        exact ⟨v,t,rfl,h1.run Γ Γ1 σ H ρ p v _ G r1 e1 fun σ1 G1=>h2.run Γ1 Γ' σ1 H ρ ps t _ G1 r2 eq k⟩⟩,fun ps Γ Γ' e=>by
    cases ps with
    | nil=>cases e
    | cons p ps=>
      have e:(g p Γ).bind (gs ps)=some Γ':=e
      cases e1:g p Γ with
      | none=>rw [e1] at e; cases e
      | some Γ1=>rw [e1] at e; rw [List.length_cons,h2.len ps Γ1 Γ' e]⟩
theorem sg_tup {es:List Expr} {k n:Nat} {gs:GAs} (hc:X.calm=true) (h:SimGs X es n gs) (hn:(assignEach es X.env).length=n:=by rfl) (hst:(assignEach es X.env).findIdx? (·.1)=none:=by rfl):SimG X (.Tuple es k pos) (gaTup gs):=
  ⟨fun Γ Γ' σ H ρ p v Q G r e q=>⟨_,pg_tup hc pgs_x hn hst,by
    cases p with
    | tup ps=>
      obtain ⟨a,vs,rfl,ha,na,ra⟩:=r
      exact ⟨a,vs,rfl,SqT.of ha,by rw [<- ra.length]; exact h.len ps Γ Γ' e,h.run Γ Γ' σ H ρ ps vs Q G ra e q⟩
    | _=>cases e⟩⟩
end
abbrev Wt:=List (Nat × Cell)
def wOk (w:Wt) (st:Q0):Prop:=∀ x ∈ w,st[x.1]?=some x.2
theorem wOk_nil (st:Q0):wOk [] st:=fun x h=>by cases h
structure Src (J:It) (items:List PV) (w:Wt) (H:Hp) (ρ:Tk):Prop where
  stop:∀ H2 ρ2 st2,Ext H ρ H2 ρ2->Rel H2 ρ2 st2->wOk w st2->J.stop items.length H2
  go:∀ H2 ρ2 st2,Ext H ρ H2 ρ2->Rel H2 ρ2 st2->wOk w st2->∀ i,i < items.length->J.go i H2
  yld:∀ H2 ρ2 st2,Ext H ρ H2 ρ2->Rel H2 ρ2 st2->wOk w st2->∀ i p,items[i]?=some p->∀ x H3,J.yld i H2 x H3->Same H2 H3/\Rep H3 ρ2 p x
abbrev MI:=Gam->Q0->Res (List PV × Wt)
structure SimI (X:Cx) (E:XK) (tg iter:Expr) (mi:MI):Prop where
  run:∀ (Γ:Gam) (σ:St) (H:Hp) (ρ:Tk) (st:Q0) (P:List PV × Wt->Q0->Hp->Tk->Prop) (R':It->Hp->Prop),Rel H ρ st->EnvR H ρ Γ σ->Acc X.mg E H ρ P (mi Γ st) ->
    (∀ iw st1 H1 ρ1 J,mi Γ st=.ok iw st1->Ext H ρ H1 ρ1->Rel H1 ρ1 st1->EnvR H1 ρ1 Γ σ->wOk iw.2 st1->iw.1.length<=sizeLine->Src J iw.1 iw.2 H1 ρ1->P iw st1 H1 ρ1->R' J H1)->WI X tg iter σ H R'
def srcOf (st:Q0):PV->Option (List PV × Wt)
  | .tup xs=>some (xs,[])
  | .lst xs=>some (xs,[])
  | .fro xs=>some (xs,[])
  | .ref i=>match st[i]? with
    | some (.lst xs)=>some (xs,[(i,.lst xs)])
    | _=>none
  | _=>none
theorem src_at {K:PySem.W.Frag} {H:Hp} {ρ:Tk} {st:Q0} {p:PV} {v:V} {xs:List PV} {w:Wt} (R:Rel H ρ st) (r:Rep H ρ p v) (e:srcOf st p=some (xs,w)) :
    wOk w st/\∃ (t:Bool) (a:Addr),v=.ref a/\(t=true->∃ ys,p=.tup ys)/\(t=false->∀ ys,p ≠ .tup ys)/\∀ H2 ρ2 st2,Ext H ρ H2 ρ2->Rel H2 ρ2 st2->wOk w st2->∃ vs,SqK K t H2 a vs/\RepL H2 ρ2 xs vs:=by
  cases p with
  | tup ys=>
    obtain ⟨a,vs,rfl,ha,na,ra⟩:=r
    cases e
    exact ⟨wOk_nil _,true,a,rfl,fun _=>⟨_,rfl⟩,(fun z=>by cases z),fun H2 ρ2 st2 x R2 _=>⟨vs,show SqT K H2 a vs from SqT.of (x.kp ha na),ra.ext x⟩⟩
  | lst ys=>
    obtain ⟨a,vs,rfl,ha,na,ra⟩:=r
    cases e
    exact ⟨wOk_nil _,false,a,rfl,(fun z=>by cases z),(fun _ _ z=>by cases z),fun H2 ρ2 st2 x R2 _=>⟨vs,show SqL K H2 a vs from SqL.of (x.kp ha na),ra.ext x⟩⟩
  | fro ys=>
    obtain ⟨a,vs,rfl,ha,na,ra⟩:=r
    cases e
    refine ⟨wOk_nil _,false,a,rfl,(fun z=>by cases z),(fun _ _ z=>by cases z),fun H2 ρ2 st2 x R2 _=>⟨vs,show SqL K H2 a vs from ?_,ra.ext x⟩⟩
    rcases ha with ha | ⟨o,ha⟩
    · exact .inl (.inl (x.kp ha na))
    · exact .inl (.inr ⟨o,x.kp ha na⟩)
  | ref i=>
    obtain ⟨a,ea,rfl⟩:=r
    simp only [srcOf] at e
    split at e
    · rename_i ys hs
      cases e
      refine ⟨fun x hx=>?_,false,a,rfl,(fun z=>by cases z),(fun _ _ z=>by cases z),fun H2 ρ2 st2 x R2 ok=>?_⟩
      · have:x=(i,.lst xs):=by simpa using hx
        subst this; exact hs
      · have hs2:=ok (i,.lst xs) (by simp)
        obtain ⟨b,vs,f1,f2,f3⟩:=R2.lst hs2
        obtain ⟨t,et⟩:=x.pre
        rw [<- et,List.getElem?_append_left (List.getElem?_eq_some_iff.mp ea).1,ea] at f1
        cases f1
        exact ⟨vs,show SqL K H2 a vs from SqL.of f2,f3⟩
    · cases e
  | _=>cases e
section
variable {X:Cx} {E:XK} {pos:Pos} {tg:Expr} {e:Expr} {m:ME}
def mSeq (m:ME):MI:=fun Γ st=>(m Γ st).bind fun p st1=>match srcOf st1 p with
  | some (xs,w)=>if xs.length<=lim then .ok (xs,w) st1 else .stuck
  | none=>.stuck
theorem RepL.i {H:Hp} {ρ:Tk} {ps:List PV} {vs:List V} {i:Nat} {p:PV} {x:V} (r:RepL H ρ ps vs) (h:ps[i]?=some p) (h':vs[i]?=some x):Rep H ρ p x:=by
  obtain ⟨v,e,q⟩:=r.get h
  rw [h'] at e; cases e
  exact q
theorem src_seq {K:PySem.W.Frag} {H:Hp} {ρ:Tk} {t:Bool} {a:Addr} {xs:List PV} {w:Wt} (h:∀ H2 ρ2 st2,Ext H ρ H2 ρ2->Rel H2 ρ2 st2->wOk w st2->∃ vs,SqK K t H2 a vs/\RepL H2 ρ2 xs vs):Src (if t=true then Itt K a else Itl K a) xs w H ρ:=by
  cases t with
  | true=>
    rw [if_pos rfl]
    refine ⟨fun H2 ρ2 st2 x R ok=>?_,fun H2 ρ2 st2 x R ok i hi=>?_,fun H2 ρ2 st2 x R ok i p hp y H3 hy=>?_⟩
    · obtain ⟨vs,s,r⟩:=h H2 ρ2 st2 x R ok
      exact ⟨vs,s,by rw [r.length]; exact Nat.le_refl _⟩
    · obtain ⟨vs,s,r⟩:=h H2 ρ2 st2 x R ok
      have hi':i < vs.length:=by rw [<- r.length]; exact hi
      exact ⟨vs,vs[i],s,List.getElem?_eq_getElem hi'⟩
    · obtain ⟨vs,s,r⟩:=h H2 ρ2 st2 x R ok
      obtain ⟨rfl,hv⟩:=hy
      exact ⟨Same.refl _,r.i hp (hv vs s)⟩
  | false=>
    rw [if_neg Bool.false_ne_true]
    refine ⟨fun H2 ρ2 st2 x R ok=>?_,fun H2 ρ2 st2 x R ok i hi=>?_,fun H2 ρ2 st2 x R ok i p hp y H3 hy=>?_⟩
    · obtain ⟨vs,s,r⟩:=h H2 ρ2 st2 x R ok
      exact ⟨vs,s,by rw [r.length]; exact Nat.le_refl _⟩
    · obtain ⟨vs,s,r⟩:=h H2 ρ2 st2 x R ok
      have hi':i < vs.length:=by rw [<- r.length]; exact hi
      exact ⟨vs,vs[i],s,List.getElem?_eq_getElem hi'⟩
    · obtain ⟨vs,s,r⟩:=h H2 ρ2 st2 x R ok
      obtain ⟨rfl,hv⟩:=hy
      exact ⟨Same.refl _,r.i hp (hv vs s)⟩
theorem mSeq_in {mg:Str->Option Value} {H:Hp} {ρ:Tk} {st:Q0} {p:PV} {P:List PV × Wt->Q0->Hp->Tk->Prop} (R:Rel H ρ st) (h:Acc mg E H ρ P (match srcOf st p with | some (xs,w)=>if xs.length<=lim then .ok (xs,w) st else .stuck | none=>.stuck)) :
    ∃ xs w,srcOf st p=some (xs,w)/\xs.length<=lim/\P (xs,w) st H ρ:=by
  split at h
  · rename_i xs w e
    split at h
    · rename_i hl
      exact ⟨xs,w,e,hl,h H ρ (Ext.refl _ _) R⟩
    · exact h.elim
  · exact h.elim
theorem si_seq (ha:SimE X E e m):SimI X E tg e (mSeq m):=⟨fun Γ σ H ρ st P R' R G h k=>by
  have hb:Acc X.mg E H ρ _ (m Γ st):=Acc.bind h
  by_cases ht:∃ ys st1,m Γ st=.ok (.tup ys) st1
  · obtain ⟨ys,st0,e0⟩:=ht
    refine WI.of (pi_tup pe_w) (ha.use' R G hb fun p st1 H1 ρ1 v eq x1 R1 G1 r1 h1=>?_)
    obtain ⟨xs,w,e,hl,hP⟩:=mSeq_in R1 h1
    obtain ⟨ok,t,a,rfl,t1,t2,sq⟩:=src_at (K:=X.K) R1 r1 e
    have ep:p=.tup ys:=by rw [eq] at e0; injection e0
    cases t with
    | false=>exact absurd ep (t2 rfl ys)
    | true=>
      obtain ⟨vs,s,_⟩:=sq H1 ρ1 st1 (Ext.refl _ _) R1 ok
      exact ⟨a,rfl,⟨vs,s⟩,k (xs,w) st1 H1 ρ1 _ (by simp only [mSeq,eq,Res.bind,e,if_pos hl]) x1 R1 G1 ok (le_lim hl) (src_seq sq) hP⟩
  · refine WI.of (pi_list pe_w) (ha.use' R G hb fun p st1 H1 ρ1 v eq x1 R1 G1 r1 h1=>?_)
    obtain ⟨xs,w,e,hl,hP⟩:=mSeq_in R1 h1
    obtain ⟨ok,t,a,rfl,t1,t2,sq⟩:=src_at (K:=X.K) R1 r1 e
    cases t with
    | true=>
      obtain ⟨ys,rfl⟩:=t1 rfl
      exact absurd ⟨ys,st1,eq⟩ ht
    | false=>
      obtain ⟨vs,s,_⟩:=sq H1 ρ1 st1 (Ext.refl _ _) R1 ok
      exact ⟨a,rfl,⟨vs,s⟩,k (xs,w) st1 H1 ρ1 _ (by simp only [mSeq,eq,Res.bind,e,if_pos hl]) x1 R1 G1 ok (le_lim hl) (src_seq sq) hP⟩⟩
def rangeI (lo:Int) (n:Nat):List PV:=(List.range n).map fun (k:Nat)=>PV.int (lo + (k:Int))
theorem src_range {H:Hp} {ρ:Tk} {lo:Int} {n:Nat}:Src (Itr lo n) (rangeI lo n) [] H ρ:=by
  have hl:(rangeI lo n).length=n:=by unfold rangeI; rw [List.length_map,List.length_range]
  refine ⟨fun H2 ρ2 st2 x R ok=>?_,fun H2 ρ2 st2 x R ok i hi=>?_,fun H2 ρ2 st2 x R ok i p hp y H3 hy=>?_⟩
  · show n<=(rangeI lo n).length
    omega
  · show i < n
    omega
  · obtain ⟨rfl,rfl⟩:=hy
    have hi:i < n:=by rw [<- hl]; exact (List.getElem?_eq_some_iff.mp hp).1
    unfold rangeI at hp
    rw [List.getElem?_map,List.getElem?_range hi] at hp
    cases hp
    exact ⟨Same.refl _,rfl⟩
def mRange1 (mr:Gam->Q0->Res (List PV)):MI:=fun Γ st=>(mr Γ st).bind fun ps st1=>match ps with
  | [.int j]=>if -(lim:Int)<=j/\j<=lim then .ok (rangeI 0 j.toNat,[]) st1 else .stuck
  | _=>.stuck
def mRange2 (mr:Gam->Q0->Res (List PV)):MI:=fun Γ st=>(mr Γ st).bind fun ps st1=>match ps with
  | [.int i,.int j]=>if -(lim:Int)<=i/\i<=lim/\-(lim:Int)<=j/\j<=lim then .ok (rangeI i (j - i).toNat,[]) st1 else .stuck
  | _=>.stuck
variable {a b:Expr} {mr:Gam->Q0->Res (List PV)} {p:Pos}
theorem rangeI_len (lo:Int) (n:Nat):(rangeI lo n).length=n:=by unfold rangeI; rw [List.length_map,List.length_range]
theorem si_range1 (hg:Gl X "range") (hm:X.mg "range" = none) (ha:SimA X E [a] mr) (hs:starEach [a] X.env=[(false,eval a X.env)]:=by rfl):SimI X E tg (.Call (.Name "range" p) [a] [] pos) (mRange1 mr):=⟨fun Γ σ H ρ st P R' R G h k=>by
  refine WI.of (pi_range1 hg hm pa_w hs) (ha.use' R G h.bind fun ps st1 H1 ρ1 vs eq x1 R1 G1 r1 h1=>?_)
  split at h1
  · rename_i j
    split at h1
    · rename_i hj
      obtain ⟨v,rfl,rv⟩:=repL_one r1
      cases rv
      have hl:(lim:Int)=1000000:=rfl
      refine ⟨j,rfl,by omega,by omega,k (rangeI 0 j.toNat,[]) st1 H1 ρ1 _ (by simp only [mRange1,eq,Res.bind,if_pos hj]) x1 R1 G1 (wOk_nil _) ?_ src_range (h1 H1 ρ1 (Ext.refl _ _) R1)⟩
      show (rangeI 0 j.toNat).length<=sizeLine
      rw [rangeI_len]
      exact le_lim (by omega)
    · exact h1.elim
  · exact h1.elim⟩
def zipT:List PV->List PV->List PV
  | x :: xs,y :: ys=>.tup [x,y] :: zipT xs ys
  | _,_=>[]
theorem zipT_eq (xs ys:List PV):zipT xs ys=(xs.zip ys).map fun z=>.tup [z.1,z.2]:=by
  induction xs generalizing ys with
  | nil=>rfl
  | cons x xs ih=>
    cases ys with
    | nil=>rfl
    | cons y ys=>rw [zipT,ih]; rfl
theorem zipT_len (xs ys:List PV):(zipT xs ys).length=min xs.length ys.length:=by rw [zipT_eq,List.length_map,List.length_zip]
theorem zipT_get {xs ys:List PV} {i:Nat} {p:PV} (h:(zipT xs ys)[i]?=some p):∃ x y,p=.tup [x,y]/\xs[i]?=some x/\ys[i]?=some y:=by
  rw [zipT_eq,List.getElem?_map] at h
  cases e:(xs.zip ys)[i]? with
  | none=>rw [e] at h; cases h
  | some z=>
    rw [e] at h; cases h
    rw [List.getElem?_zip_eq_some] at e
    exact ⟨z.1,z.2,rfl,e.1,e.2⟩
def mZip (mr:Gam->Q0->Res (List PV)):MI:=fun Γ st=>(mr Γ st).bind fun ps st1=>match ps with
  | [p,q]=>match srcOf st1 p,srcOf st1 q with
    | some (xs,w),some (ys,w')=>if xs.length<=lim then .ok (zipT xs ys,w ++ w') st1 else .stuck
    | _,_=>.stuck
  | _=>.stuck
theorem wOk_app {w w':Wt} {st:Q0} (h:wOk (w ++ w') st):wOk w st/\wOk w' st:=⟨fun x hx=>h x (List.mem_append_left _ hx),fun x hx=>h x (List.mem_append_right _ hx)⟩
theorem src_zip {K:PySem.W.Frag} {H:Hp} {ρ:Tk} {t1 t2:Bool} {a b:Addr} {xs ys:List PV} {w w':Wt} (h:∀ H2 ρ2 st2,Ext H ρ H2 ρ2->Rel H2 ρ2 st2->wOk w st2->∃ vs,SqK K t1 H2 a vs/\RepL H2 ρ2 xs vs)
    (h':∀ H2 ρ2 st2,Ext H ρ H2 ρ2->Rel H2 ρ2 st2->wOk w' st2->∃ vs,SqK K t2 H2 b vs/\RepL H2 ρ2 ys vs):Src (Itz K t1 t2 a b) (zipT xs ys) (w ++ w') H ρ:=by
  refine ⟨fun H2 ρ2 st2 x R ok=>?_,fun H2 ρ2 st2 x R ok i hi=>?_,fun H2 ρ2 st2 x R ok i p hp y H3 hy=>?_⟩
  · obtain ⟨vs,s,r⟩:=h H2 ρ2 st2 x R (wOk_app ok).1
    obtain ⟨us,s',r'⟩:=h' H2 ρ2 st2 x R (wOk_app ok).2
    refine ⟨vs,us,s,s',?_⟩
    rw [zipT_len,<- r.length,<- r'.length]
    omega
  · obtain ⟨vs,s,r⟩:=h H2 ρ2 st2 x R (wOk_app ok).1
    obtain ⟨us,s',r'⟩:=h' H2 ρ2 st2 x R (wOk_app ok).2
    rw [zipT_len,r.length,r'.length] at hi
    have h1:i < vs.length:=by omega
    have h2:i < us.length:=by omega
    exact ⟨vs,us,vs[i],us[i],s,s',List.getElem?_eq_getElem h1,List.getElem?_eq_getElem h2⟩
  · obtain ⟨vs,s,r⟩:=h H2 ρ2 st2 x R (wOk_app ok).1
    obtain ⟨us,s',r'⟩:=h' H2 ρ2 st2 x R (wOk_app ok).2
    obtain ⟨q,u,v,hn,rfl,rfl,hv⟩:=hy
    obtain ⟨e1,e2⟩:=hv vs us s s'
    obtain ⟨xp,yp,rfl,p1,p2⟩:=zipT_get hp
    have sm:Same H2 (upd H2 q (.tup [u,v])):=same_new hn
    exact ⟨sm,q,[u,v],rfl,upd_same,R.fresh hn,RepL.cons ((r.i p1 e1).ext (Ext.same sm)) (RepL.cons ((r'.i p2 e2).ext (Ext.same sm)) RepL.nil)⟩
theorem si_zip {elts:List Expr} {kt:Nat} {tp:Pos} (hg:Gl X "zip") (hm:X.mg "zip" = none) (ha:SimA X E [a,b] mr) (hs:starEach [a,b] X.env=[(false,eval a X.env),(false,eval b X.env)]:=by rfl) (hs2:starEach [b] X.env=[(false,eval b X.env)]:=by rfl) :
    SimI X E (.Tuple elts kt tp) (.Call (.Name "zip" p) [a,b] [] pos) (mZip mr):=⟨fun Γ σ H ρ st P R' R G h k=>by
  have hb:Acc X.mg E H ρ _ (mr Γ st):=Acc.bind h
  have main:∀ t1 t2:Bool,(∀ p q st1,mr Γ st=.ok [p,q] st1->(t1=true <-> ∃ ys,p=.tup ys)/\(t2=true <-> ∃ ys,q=.tup ys))->WI X (.Tuple elts kt tp) (.Call (.Name "zip" p) [a,b] [] pos) σ H R':=fun t1 t2 ht=>by
    refine WI.of (pi_zip t1 t2 hg hm pa_w hs hs2) (ha.use' R G hb fun ps st1 H1 ρ1 vs eq x1 R1 G1 r1 h1=>?_)
    split at h1
    · rename_i p' q'
      split at h1
      · rename_i xs w ys w' e1 e2
        split at h1
        · rename_i hl
          obtain ⟨v,u,rfl,rv,ru⟩:=repL_two r1
          obtain ⟨ok1,b1,a1,rfl,z1,z1',sq1⟩:=src_at (K:=X.K) R1 rv e1
          obtain ⟨ok2,b2,a2,rfl,z2,z2',sq2⟩:=src_at (K:=X.K) R1 ru e2
          obtain ⟨g1,g2⟩:=ht _ _ _ eq
          have eb1:b1=t1:=by
            cases b1 with
            | true=>exact (g1.mpr (z1 rfl)).symm
            | false=>
              cases t1 with
              | false=>rfl
              | true=>obtain ⟨ys,e⟩:=g1.mp rfl; exact absurd e (z1' rfl ys)
          have eb2:b2=t2:=by
            cases b2 with
            | true=>exact (g2.mpr (z2 rfl)).symm
            | false=>
              cases t2 with
              | false=>rfl
              | true=>obtain ⟨ys,e⟩:=g2.mp rfl; exact absurd e (z2' rfl ys)
          subst eb1; subst eb2
          obtain ⟨vs1,s1,_⟩:=sq1 H1 ρ1 st1 (Ext.refl _ _) R1 ok1
          obtain ⟨vs2,s2,_⟩:=sq2 H1 ρ1 st1 (Ext.refl _ _) R1 ok2
          refine ⟨a1,a2,vs1,vs2,rfl,s1,s2,k (zipT xs ys,w ++ w') st1 H1 ρ1 _ (by simp only [mZip,eq,Res.bind,e1,e2,if_pos hl]) x1 R1 G1 (fun x hx=>?_) ?_ (src_zip sq1 sq2) (h1 H1 ρ1 (Ext.refl _ _) R1)⟩
          · rcases List.mem_append.mp hx with hx | hx
            · exact ok1 x hx
            · exact ok2 x hx
          · show (zipT xs ys).length<=sizeLine
            rw [zipT_len]
            exact le_lim (Nat.le_trans (Nat.min_le_left _ _) hl)
        · exact h1.elim
      · exact h1.elim
    · exact h1.elim
  have tt:∀ p:PV,∃ t:Bool,t=true <-> ∃ ys,p=.tup ys:=fun p=>by
    cases p with
    | tup ys=>exact ⟨true,fun _=>⟨ys,rfl⟩,fun _=>rfl⟩
    | _=>exact ⟨false,⟨fun z=>(by cases z),fun ⟨_,z⟩=>(by cases z)⟩⟩
  by_cases hz:∃ p q st1,mr Γ st=.ok [p,q] st1
  · obtain ⟨p0,q0,st0,e0⟩:=hz
    obtain ⟨t1,g1⟩:=tt p0
    obtain ⟨t2,g2⟩:=tt q0
    refine main t1 t2 fun p q st1 e=>?_
    rw [e0] at e; cases e
    exact ⟨g1,g2⟩
  · exact main true true fun p q st1 e=>absurd ⟨p,q,st1,e⟩ hz⟩
def enumT:Nat->List PV->List PV
  | _,[]=>[]
  | n,x :: xs=>.tup [.int n,x] :: enumT (n + 1) xs
def mEnum (mr:Gam->Q0->Res (List PV)):MI:=fun Γ st=>(mr Γ st).bind fun ps st1=>match ps with
  | [p]=>match srcOf st1 p with
    | some (xs,w)=>if xs.length<=lim then .ok (enumT 0 xs,w) st1 else .stuck
    | none=>.stuck
  | _=>.stuck
end
end Sm
namespace Sm
open PySem PySem.Spec L2
abbrev ML:=Gam->Q0->Res (List PV)
structure SimN (X:Cx) (E:XK) (e:Expr) (m:ML):Prop where
  run:∀ (Γ:Gam) (σ:St) (H:Hp) (ρ:Tk) (st:Q0) (P:List PV->Q0->Hp->Tk->Prop) (Q:VK),Rel H ρ st->EnvR H ρ Γ σ->Acc X.mg E H ρ P (m Γ st) ->
    (∀ ps st1 H1 ρ1 a vs,m Γ st=.ok ps st1->Ext H ρ H1 ρ1->Rel H1 ρ1 st1->a ∈ ρ1.hid->H a=none->H1 a=some (.lst vs)->RepL H1 ρ1 ps vs->Q (.ref a) H1)->WE X e σ H Q
def mVal (m:ML):ME:=fun Γ st=>(m Γ st).bind fun ps st1=>.ok (.lst ps) st1
def mTrk (m:ML):ME:=fun Γ st=>(m Γ st).bind fun ps st1=>.ok (.ref st1.length) (st1 ++ [.lst ps])
section
variable {H0 H:Hp} {ρ0 ρ:Tk} {st:Q0} {a:Addr} {ps:List PV} {vs:List V}
theorem out_val (R0:Rel H0 ρ0 st) (x:Ext H0 ρ0 H ρ) {st1:Q0} (R:Rel H ρ st1) (hm:a ∈ ρ.hid) (hn:H0 a=none) (ha:H a=some (.lst vs)) (r:RepL H ρ ps vs) :
    Ext H0 ρ0 H ⟨ρ.tr,ρ0.hid⟩/\Rel H ⟨ρ.tr,ρ0.hid⟩ st1/\Rep H ⟨ρ.tr,ρ0.hid⟩ (.lst ps) (.ref a):=
  ⟨x.unhide,R.unhide x.hidM,a,vs,rfl,ha,(fun z=>by
    rcases z with z | z
    · exact R.ap a hm z
    · obtain ⟨o,e,_⟩:=R0.hd a z
      rw [hn] at e; cases e),r.unhide x.hidM⟩
mutual
theorem Rep.trk {b:Addr} {hs:List Addr} (hb:b ∈ ρ.hid) (hh:∀ c,c ∈ hs->c ∈ ρ.hid):∀ {p:PV} {v:V},Rep H ρ p v->Rep H ⟨ρ.tr ++ [b],hs⟩ p v
  | .non,_,r=>r
  | .bl _,_,r=>r
  | .int _,_,r=>r
  | .str _,_,r=>r
  | .tup ps,v,⟨c,vs,e,s,n,r⟩=>⟨c,vs,e,s,fun z=>by
      rcases z with z | z
      · rcases List.mem_append.mp z with z | z
        · exact n (.inl z)
        · have:c=b:=by simpa using z
          subst this; exact n (.inr hb)
      · exact n (.inr (hh _ z)),RepL.trk hb hh r⟩
  | .lst ps,v,⟨c,vs,e,s,n,r⟩=>⟨c,vs,e,s,fun z=>by
      rcases z with z | z
      · rcases List.mem_append.mp z with z | z
        · exact n (.inl z)
        · have:c=b:=by simpa using z
          subst this; exact n (.inr hb)
      · exact n (.inr (hh _ z)),RepL.trk hb hh r⟩
  | .fro ps,v,⟨c,vs,e,s,n,r⟩=>⟨c,vs,e,s,fun z=>by
      rcases z with z | z
      · rcases List.mem_append.mp z with z | z
        · exact n (.inl z)
        · have:c=b:=by simpa using z
          subst this; exact n (.inr hb)
      · exact n (.inr (hh _ z)),RepL.trk hb hh r⟩
  | .ref i,v,⟨c,e,e2⟩=>⟨c,by show (ρ.tr ++ [b])[i]?=some c; rw [List.getElem?_append_left (List.getElem?_eq_some_iff.mp e).1]; exact e,e2⟩
  | .dic,v,⟨c,e,s,n⟩=>⟨c,e,s,fun z=>by
      rcases z with z | z
      · rcases List.mem_append.mp z with z | z
        · exact n (.inl z)
        · have:c=b:=by simpa using z
          subst this; exact n (.inr hb)
      · exact n (.inr (hh _ z))⟩
theorem RepL.trk {b:Addr} {hs:List Addr} (hb:b ∈ ρ.hid) (hh:∀ c,c ∈ hs->c ∈ ρ.hid):∀ {ps:List PV} {vs:List V},RepL H ρ ps vs->RepL H ⟨ρ.tr ++ [b],hs⟩ ps vs
  | [],_,r=>r
  | p :: ps,_,⟨v,t,e,r1,r2⟩=>⟨v,t,e,Rep.trk hb hh r1,RepL.trk hb hh r2⟩
end
theorem out_trk (R0:Rel H0 ρ0 st) (x:Ext H0 ρ0 H ρ) {st1:Q0} (R:Rel H ρ st1) (hm:a ∈ ρ.hid) (hn:H0 a=none) (ha:H a=some (.lst vs)) (r:RepL H ρ ps vs) :
    Ext H0 ρ0 H ⟨ρ.tr ++ [a],ρ0.hid⟩/\Rel H ⟨ρ.tr ++ [a],ρ0.hid⟩ (st1 ++ [.lst ps])/\Rep H ⟨ρ.tr ++ [a],ρ0.hid⟩ (.ref st1.length) (.ref a):=by
  have na0:a ∉ ρ0.hid:=fun z=>by
    obtain ⟨o,e,_⟩:=R0.hd a z
    rw [hn] at e; cases e
  refine ⟨⟨x.pre.trans (List.prefix_append _ _),fun _ h=>h,fun _ h=>.inl h,x.keep,fun b hb=>?_,x.old,x.frz⟩,⟨?_,?_,fun b hb=>R.hd b (x.hidM b hb),fun b hb z=>?_,fun i b c h1 h2=>?_⟩,a,?_,rfl⟩
  · rcases List.mem_append.mp hb with z | z
    · exact x.new b z
    · have:b=a:=by simpa using z
      subst this; exact .inr hn
  · show (ρ.tr ++ [a]).length=_
    rw [List.length_append,List.length_append,R.len]; rfl
  · show (ρ.tr ++ [a]).Nodup
    refine List.nodup_append.mpr ⟨R.nd,by simp,fun b hb c hc e=>?_⟩
    have:c=a:=by simpa using hc
    subst this; subst e
    exact R.ap b hm hb
  · rcases List.mem_append.mp z with z | z
    · exact R.ap b (x.hidM b hb) z
    · have:b=a:=by simpa using z
      subst this; exact na0 hb
  · have h1:(ρ.tr ++ [a])[i]?=some b:=h1
    by_cases hi:i < st1.length
    · rw [List.getElem?_append_left (by rw [R.len]; exact hi)] at h1
      rw [List.getElem?_append_left hi] at h2
      have q:=R.cell i b c h1 h2
      cases c with
      | lst qs=>
        obtain ⟨us,e1,e2⟩:=q
        exact ⟨us,e1,e2.trk hm x.hidM⟩
      | dic qs=>
        obtain ⟨us,e1,e2⟩:=q
        exact ⟨us,e1,e2.1,e2.2.trk hm x.hidM⟩
      | dtp qs=>
        obtain ⟨us,e1,e2⟩:=q
        exact ⟨us,e1,e2.1,e2.2.trk hm x.hidM⟩
      | frd qs=>
        obtain ⟨us,e1,e2⟩:=q
        exact ⟨us,e1,e2.1,e2.2.trk hm x.hidM⟩
    · rw [List.getElem?_append_right (by rw [R.len]; omega)] at h1
      rw [List.getElem?_append_right (by omega)] at h2
      have e0:i - st1.length=0:=by
        rcases Nat.eq_zero_or_pos (i - st1.length) with z | z
        · exact z
        · rw [List.getElem?_eq_none (by simp; omega)] at h2; cases h2
      rw [R.len,e0] at h1
      rw [e0] at h2
      simp at h1 h2
      subst h1; subst h2
      exact ⟨vs,ha,r.trk hm x.hidM⟩
  · show (ρ.tr ++ [a])[st1.length]?=some a
    rw [<- R.len,List.getElem?_append_right (Nat.le_refl _),Nat.sub_self]; rfl
end
section
variable {X:Cx} {E:XK} {pos:Pos} {e:Expr} {m:ML}
theorem se_val (h:SimN X E e m):SimE X E e (mVal m):=⟨fun Γ σ H ρ st Q R G hq=>h.run Γ σ H ρ st _ Q R G hq.bind fun ps st1 H1 ρ1 a vs eq x R1 hm hn ha r=>by
  obtain ⟨x2,R2,r2⟩:=out_val R x R1 hm hn ha r
  unfold mVal at hq
  rw [eq] at hq
  exact hq _ _ x2 R2 _ r2⟩
theorem se_trk (h:SimN X E e m):SimE X E e (mTrk m):=⟨fun Γ σ H ρ st Q R G hq=>h.run Γ σ H ρ st _ Q R G hq.bind fun ps st1 H1 ρ1 a vs eq x R1 hm hn ha r=>by
  obtain ⟨x2,R2,r2⟩:=out_trk R x R1 hm hn ha r
  unfold mTrk at hq
  rw [eq] at hq
  exact hq _ _ x2 R2 _ r2⟩
variable {es:List Expr} {mr:Gam->Q0->Res (List PV)} {a b:Expr} {ma mb:ME}
theorem new_at {H1:Hp} {ρ1:Tk} {st1:Q0} {H:Hp} {ρ:Tk} {Q:VK} {ps:List PV} {vs:List V} (x:Ext H ρ H1 ρ1) (R1:Rel H1 ρ1 st1) (r:RepL H1 ρ1 ps vs)
    (k:∀ H1 ρ1 a vs,Ext H ρ H1 ρ1->Rel H1 ρ1 st1->a ∈ ρ1.hid->H a=none->H1 a=some (.lst vs)->RepL H1 ρ1 ps vs->Q (.ref a) H1):∀ p,H1 p=none->Q (.ref p) (upd H1 p (.lst vs)):=fun p hp=>by
  refine k _ (ρ1.hide p) p vs (x.trans (Ext.hide hp)) (R1.hide hp) List.mem_cons_self ?_ upd_same (r.hide hp)
  cases e:H p with
  | none=>rfl
  | some o=>
    obtain ⟨o',e'⟩:=x.old p o e
    rw [hp] at e'; cases e'
def mLstN (mr:Gam->Q0->Res (List PV)):ML:=fun Γ st=>(mr Γ st).bind fun ps st1=>if ps.length<=lim then .ok ps st1 else .stuck
theorem sn_lst (h:SimA X E es mr):SimN X E (.List es pos) (mLstN mr):=
  ⟨fun Γ σ H ρ st P Q R G hq k=>WE.of (pe_lst pa_w) (h.use' R G hq.bind fun ps st1 H1 ρ1 vs eq x1 R1 G1 r1 h1=>by
    by_cases hl:ps.length<=lim
    · refine ⟨by rw [<- r1.length]; exact le_lim hl,new_at x1 R1 r1 fun H2 ρ2 a us=>k ps st1 H2 ρ2 a us ?_⟩
      unfold mLstN
      rw [eq]
      exact if_pos hl
    · rw [if_neg hl] at h1; exact h1.elim)⟩
def mListN (ma:ME):ML:=fun Γ st=>(ma Γ st).bind fun p st1=>match seqOf st1 p with
  | some xs=>.ok xs st1
  | none=>.stuck
def oAddN (st:Q0) (p q:PV):Res (List PV):=match lstOf st p,lstOf st q with
  | some xs,some ys=>if xs.length + ys.length<=lim then .ok (xs ++ ys) st else .stuck
  | _,_=>.stuck
def mAddN (ma mb:ME):ML:=fun Γ st=>(ma Γ st).bind fun x st1=>(mb Γ st1).bind fun y st2=>oAddN st2 x y
def oRepN (st:Q0) (p q:PV):Res (List PV):=match lstOf st p,q with
  | some xs,.int b=>if -(2 ^ 63)<=b/\b < 2 ^ 63/\xs.length * b.toNat<=lim then .ok (List.replicate b.toNat xs).flatten st else .stuck
  | _,_=>.stuck
def mRepN (ma mb:ME):ML:=fun Γ st=>(ma Γ st).bind fun x st1=>(mb Γ st1).bind fun y st2=>oRepN st2 x y
end
end Sm
namespace Sm
open PySem PySem.Spec L2
def capG (cap:List (Option Nat)) (Γ:Gam):Gam:=cap.map fun c=>c.bind fun j=>(Γ[j]?).join
theorem EnvR.cap {H:Hp} {ρ:Tk} {Γ:Gam} {σ:St} (h:EnvR H ρ Γ σ) (cap:List (Option Nat)):EnvR H ρ (capG cap Γ) (capOf cap σ):=by
  refine ⟨by unfold capG capOf; rw [List.length_map,List.length_map],fun i p e=>?_⟩
  unfold capG at e
  unfold capOf
  rw [List.getElem?_map] at e ⊢
  cases q:cap[i]? with
  | none=>rw [q] at e; cases e
  | some c=>
    rw [q] at e
    cases c with
    | none=>cases e
    | some j=>
      have e':(Γ[j]?).join=some p:=Option.some.inj e
      cases r:Γ[j]? with
      | none=>rw [r] at e'; cases e'
      | some o=>
        rw [r] at e'
        have:o=some p:=e'
        subst this
        obtain ⟨v,e1,e2⟩:=h.2 j p r
        exact ⟨v,by show some ((σ[j]?).join)=some (some v); rw [e1]; rfl,e2⟩
def FreeT (cap:List (Option Nat)) (ga:GA):Prop:=∀ Γ p Γ1,ga p (capG cap Γ)=some Γ1->Γ1.length=(capG cap Γ).length/\∀ (i:Nat) (q:PV),(capG cap Γ)[i]?=some (some q)->Γ1[i]?=some (some q)
theorem capG_none {cap:List (Option Nat)} {i:Nat} (h:cap[i]?=some none) (Γ:Gam):(capG cap Γ)[i]?=some none:=by
  unfold capG
  rw [List.getElem?_map,h]; rfl
theorem free_name {cap:List (Option Nat)} {i:Nat} (h:cap[i]?=some none:=by rfl):FreeT cap (gaName i):=fun Γ p Γ1 e=>by
  cases e
  refine ⟨List.length_set ..,fun j q hj=>?_⟩
  rw [List.getElem?_set_ne fun z=>?_]
  · exact hj
  · subst z; rw [capG_none h] at hj; cases hj
def FreeL (cap:List (Option Nat)) (ga:GAs):Prop:=∀ Γ ps Γ0 Γ1,(∀ (i:Nat) (q:PV),(capG cap Γ)[i]?=some (some q)->Γ0[i]?=some (some q))->ga ps Γ0=some Γ1->Γ1.length=Γ0.length/\∀ (i:Nat) (q:PV),(capG cap Γ)[i]?=some (some q)->Γ1[i]?=some (some q)
theorem free_nil {cap:List (Option Nat)}:FreeL cap gaNil:=fun Γ ps Γ0 Γ1 h e=>by
  cases ps with
  | nil=>cases e; exact ⟨rfl,h⟩
  | cons _ _=>cases e
theorem free_cons {cap:List (Option Nat)} {i:Nat} {gs:GAs} (hs:FreeL cap gs) (h:cap[i]?=some none:=by rfl):FreeL cap (gaCons (gaName i) gs):=fun Γ ps Γ0 Γ1 h0 e=>by
  cases ps with
  | nil=>cases e
  | cons p ps=>
    obtain ⟨a,b⟩:=hs Γ ps (Γ0.set i (some p)) Γ1 (fun k r hk=>by
      rw [List.getElem?_set_ne fun z=>?_]
      · exact h0 k r hk
      · subst z; rw [capG_none h] at hk; cases hk) e
    exact ⟨by rw [a,List.length_set],b⟩
theorem free_tup {cap:List (Option Nat)} {gs:GAs} (hs:FreeL cap gs):FreeT cap (gaTup gs):=fun Γ p Γ1 e=>by
  cases p with
  | tup ps=>exact hs Γ ps _ Γ1 (fun _ _ h=>h) e
  | _=>cases e
open Classical in
def compG (ga:GA) (mt:MT) (me:ME) (w:Wt) (Γ0:Gam):List PV->Q0->Res (List PV)
  | [],st=>if wOk w st then .ok [] st else .stuck
  | x :: xs,st=>if wOk w st then (match ga x Γ0 with
    | none=>.stuck
    | some Γ1=>(mt Γ1 st).bind fun b st1=>if b=true then (me Γ1 st1).bind fun y st2=>(compG ga mt me w Γ0 xs st2).bind fun ys st3=>.ok (y :: ys) st3 else compG ga mt me w Γ0 xs st1) else .stuck
def noX {α:Type}:Res α->Res α
  | .exc _ _=>.stuck
  | r=>r
def mCompN (cap:List (Option Nat)) (ga:GA) (mi:MI) (mt:MT) (me:ME):ML:=fun Γ st=>(mi Γ st).bind fun iw st1=>noX (compG ga mt me iw.2 (capG cap Γ) iw.1 st1)
structure SimTs (X:Cx) (ifs:List Expr) (m:MT):Prop where
  run:∀ (Γ:Gam) (σ:St) (H:Hp) (ρ:Tk) (st:Q0) (P:Bool->Q0->Hp->Tk->Prop) (Q:Bool->Hp->Prop),Rel H ρ st->EnvR H ρ Γ σ->Acc X.mg E0 H ρ P (m Γ st) ->
    (∀ b st1 H1 ρ1,m Γ st=.ok b st1->Ext H ρ H1 ρ1->Rel H1 ρ1 st1->EnvR H1 ρ1 Γ σ->Q b H1)->∃ t,PTs X ifs t/\t σ H Q
def mTrue:MT:=fun _ st=>.ok true st
theorem sts_nil {X:Cx}:SimTs X [] mTrue:=⟨fun Γ σ H ρ st P Q R G h k=>⟨_,pts_nil,k true st H ρ rfl (Ext.refl _ _) R G⟩⟩
theorem sts_one {X:Cx} {c:Expr} {m:MT} (hc:SimT X E0 c m):SimTs X [c] m:=⟨fun Γ σ H ρ st P Q R G h k=>⟨_,pts_one pt_w,hc.use' R G h fun b st1 H1 ρ1 e x1 R1 G1 p=>k b st1 H1 ρ1 e x1 R1 G1⟩⟩
theorem acc_noX {α:Type} {mg:Str->Option Value} {E E':XK} {H:Hp} {ρ:Tk} {P:α->Q0->Hp->Tk->Prop} {r:Res α} (h:Acc mg E H ρ P (noX r)):Acc mg E' H ρ P r:=by
  cases r with
  | ok a st=>exact h
  | exc x st=>exact h.elim
  | stuck=>exact h
theorem Res.assoc {α β γ:Type} (r:Res α) (f:α->Q0->Res β) (g:β->Q0->Res γ):(r.bind f).bind g=r.bind fun a st=>(f a st).bind g:=by cases r <;> rfl
theorem Acc.assoc {α β γ:Type} {mg:Str->Option Value} {E:XK} {H:Hp} {ρ:Tk} {P:γ->Q0->Hp->Tk->Prop} {r:Res α} {f:α->Q0->Res β} {g:β->Q0->Res γ} (h:Acc mg E H ρ P ((r.bind f).bind g)):Acc mg E H ρ P (r.bind fun a st=>(f a st).bind g):=by
  rw [<- Res.assoc]; exact h
theorem EnvR.le {H:Hp} {ρ:Tk} {Γ Γ':Gam} {σ:St} (h:EnvR H ρ Γ' σ) (hl:Γ.length=σ.length) (k:∀ (i:Nat) (q:PV),Γ[i]?=some (some q)->Γ'[i]?=some (some q)):EnvR H ρ Γ σ:=⟨hl,fun i p e=>h.2 i p (k i p e)⟩
section
variable {X:Cx} {E:XK} {pos:Pos} {tg iter elt:Expr} {ifs:List Expr} {N N':List Str} {sc scE:Scope} {cap:List (Option Nat)} {ga:GA} {mi:MI} {mt:MT} {me:ME}
def aE (X:Cx) (N':List Str) (sc:Scope) (e:Expr):TE:=fun σ H Q=>∀ cl C s0 H0 ex,WE (blkC X N' sc cl C s0 H0 ex) e σ H Q
def aG (X:Cx) (N':List Str) (sc:Scope) (tg:Expr):TG:=fun v σ H Q=>∀ cl C s0 H0 ex,WGx (blkC X N' sc cl C s0 H0 ex) tg v σ H Q
def aT (X:Cx) (N':List Str) (sc:Scope) (ifs:List Expr):TT:=fun σ H Q=>∀ cl C s0 H0 ex,∃ t,PTs (blkC X N' sc cl C s0 H0 ex) ifs t/\t σ H Q
theorem comp_body {Γ:Gam} {σ:St} {H1:Hp} {ρ1:Tk} {st1:Q0} {J:It} {items:List PV} {w:Wt} {Q:VK} {P:List PV->Q0->Hp->Tk->Prop} (hg:∀ cl C s0 H0 ex,SimG (blkC X N' sc cl C s0 H0 ex) tg ga) (he:∀ cl C s0 H0 ex,SimE (blkC X N' sc cl C s0 H0 ex) E0 elt me) (ht:∀ cl C s0 H0 ex,SimTs (blkC X N' sc cl C s0 H0 ex) ifs mt)
    (hf:FreeT cap ga) (R1:Rel H1 ρ1 st1) (G1:EnvR H1 ρ1 Γ σ) (src:Src J items w H1 ρ1) (hlen:items.length<=sizeLine) (h:Acc X.mg E0 H1 ρ1 P (compG ga mt me w (capG cap Γ) items st1))
    (k:∀ ys st2 H2 ρ2 acc vs,compG ga mt me w (capG cap Γ) items st1=.ok ys st2->Ext H1 ρ1 H2 ρ2->Rel H2 ρ2 st2->acc ∈ ρ2.hid->H1 acc=none->H2 acc=some (.lst vs)->RepL H2 ρ2 ys vs->Q (.ref acc) H2):compBodyT J cap (aG X N' sc tg) (aT X N' sc ifs) (aE X N' sc elt) σ H1 Q:=by
  intro acc hacc
  let W:Nat->Nat->List V->St->Hp->Prop:=fun i m vs σ' H'=>m=items.length - i/\i<=items.length/\vs.length<=i/\∃ ρ' st' ys,Ext H1 ρ1 H' ρ'/\acc ∈ ρ'.hid/\Rel H' ρ' st'/\EnvR H' ρ' (capG cap Γ) σ'/\H' acc=some (.lst vs)/\RepL H' ρ' ys vs /\
    compG ga mt me w (capG cap Γ) items st1=(compG ga mt me w (capG cap Γ) (items.drop i) st').bind fun zs st3=>.ok (ys ++ zs) st3
  refine ⟨W,⟨_,rfl,Nat.zero_le _,Nat.le_refl _,ρ1.hide acc,st1,[],Ext.hide hacc,List.mem_cons_self,R1.hide hacc,(G1.cap cap).hide hacc,upd_same,rfl,?_⟩,?_⟩
  · rw [List.drop_zero]
    cases r:compG ga mt me w (capG cap Γ) items st1 with
    | ok zs st3=>rfl
    | exc x st3=>rfl
    | stuck=>rfl
  rintro i m vs σ' H' ⟨hm,hi,hvl,ρ',st',ys,x,hmem,R',G',ha,ry,hq⟩
  have hA:Acc X.mg E0 H1 ρ1 P ((compG ga mt me w (capG cap Γ) (items.drop i) st').bind fun zs st3=>.ok (ys ++ zs) st3):=by rw [<- hq]; exact h
  refine ⟨ha,?_⟩
  by_cases hlt:i < items.length
  · right
    have hd:items.drop i=items[i] :: items.drop (i + 1):=List.drop_eq_getElem_cons hlt
    rw [hd,compG] at hA hq
    by_cases hw:wOk w st'
    · rw [if_pos hw] at hA hq
      refine ⟨src.go H' _ st' x R' hw i hlt,by omega,fun y H2 hy=>?_⟩
      obtain ⟨sm,ry2⟩:=src.yld H' _ st' x R' hw i _ (List.getElem?_eq_getElem hlt) y H2 hy
      cases eg:ga items[i] (capG cap Γ) with
      | none=>rw [eg] at hA; exact hA.elim
      | some Γ1=>
        rw [eg] at hA hq
        have x2:Ext H' ρ' H2 ρ':=Ext.same sm
        have R2:=R'.same sm
        intro cl C s0 H0 ex
        refine (hg cl C s0 H0 ex).run (capG cap Γ) Γ1 σ' H2 ρ' _ y _ (G'.ext x2) ry2 eg fun σ3 G3=>?_
        intro cl C s0 H0 ex
        have hA2:=Acc.later hA (x.trans x2)
        refine (ht cl C s0 H0 ex).run Γ1 σ3 H2 ρ' st' _ _ R2 G3 (Acc.bind (Acc.assoc hA2)) fun b st4 H4 ρ4 e4 x4 R4 G4=>?_
        simp only [e4,Res.bind] at hA hq
        have G0:∀ {H'':Hp} {ρ'':Tk},EnvR H'' ρ'' Γ1 σ3->EnvR H'' ρ'' (capG cap Γ) σ3:=fun {H'' ρ''} g=>g.le (by
          rw [<- G3.1]
          exact (hf Γ _ Γ1 eg).1.symm) (hf Γ _ Γ1 eg).2
        have x14:Ext H1 ρ1 H4 ρ4:=x.trans (x2.trans x4)
        have hm4:acc ∈ ρ4.hid:=x4.hidM acc hmem
        have na:acc ∉ ρ'.tr:=R'.ap acc hmem
        have ha4:H4 acc=some (.lst vs):=x4.keep acc _ (sm acc _ ha) na
        have ry4:RepL H4 ρ4 ys vs:=ry.ext (x2.trans x4)
        cases b with
        | false=>
          rw [if_neg Bool.false_ne_true] at hA hq ⊢
          exact ⟨_,show items.length - (i + 1) < m by omega,rfl,hlt,by omega,ρ4,st4,ys,x14,hm4,R4,G0 G4,ha4,ry4,hq⟩
        | true=>
          rw [if_pos rfl] at hA hq ⊢
          intro cl C s0 H0 ex
          have hA4:=Acc.later hA x14
          refine (he cl C s0 H0 ex).use' R4 G4 (Acc.bind (Acc.assoc hA4)) fun z st5 H5 ρ5 zv e5 x5 R5 G5 r5 h5=>?_
          simp only [e5,Res.bind] at hA hq
          have hm5:acc ∈ ρ5.hid:=x5.hidM acc hm4
          have ha5:H5 acc=some (.lst vs):=x5.keep acc _ ha4 (R4.ap acc hm4)
          have x15:Ext H1 ρ1 H5 ρ5:=x14.trans x5
          refine ⟨ha5,_,show items.length - (i + 1) < m by omega,rfl,hlt,by rw [List.length_append]; simp; omega,ρ5,st5,ys ++ [z],x15.put0 hacc,hm5,R5.rehide hm5,(G0 G5).rehide hm5,upd_same,((ry4.ext x5).append (RepL.cons r5 RepL.nil)).rehide hm5,?_⟩
          refine hq.trans ?_
          cases rr:compG ga mt me w (capG cap Γ) (items.drop (i + 1)) st5 with
          | ok zs st6=>
            show Res.ok (ys ++ z :: zs) st6=Res.ok ((ys ++ [z]) ++ zs) st6
            rw [List.append_assoc]; rfl
          | exc x6 st6=>rfl
          | stuck=>rfl
    · rw [if_neg hw] at hA; exact hA.elim
  · left
    have ei:i=items.length:=by omega
    subst ei
    rw [List.drop_length,compG] at hA hq
    by_cases hw:wOk w st'
    · rw [if_pos hw] at hA hq
      refine ⟨src.stop H' _ st' x R' hw,?_⟩
      have hq:compG ga mt me w (capG cap Γ) items st1=.ok (ys ++ []) st':=hq
      rw [List.append_nil] at hq
      exact k ys st' H' ρ' acc vs hq x R' hmem hacc ha ry
    · rw [if_neg hw] at hA; exact hA.elim
theorem comp_run {Γ:Gam} {σ:St} {H:Hp} {ρ:Tk} {st:Q0} {Q:VK} {P:List PV->Q0->Hp->Tk->Prop} (hi:SimI X E tg iter mi) (hg:∀ cl C s0 H0 ex,SimG (blkC X N' sc cl C s0 H0 ex) tg ga) (he:∀ cl C s0 H0 ex,SimE (blkC X N' sc cl C s0 H0 ex) E0 elt me) (ht:∀ cl C s0 H0 ex,SimTs (blkC X N' sc cl C s0 H0 ex) ifs mt)
    (hf:FreeT cap ga) (R:Rel H ρ st) (G:EnvR H ρ Γ σ) (h:Acc X.mg E H ρ P (mCompN cap ga mi mt me Γ st)) (k:∀ ps st2 H2 ρ2 a vs,mCompN cap ga mi mt me Γ st=.ok ps st2->Ext H ρ H2 ρ2->Rel H2 ρ2 st2->a ∈ ρ2.hid->H a=none->H2 a=some (.lst vs)->RepL H2 ρ2 ps vs->Q (.ref a) H2):tCompT cap (WI X tg iter) (aG X N' sc tg) (aT X N' sc ifs) (aE X N' sc elt) σ H Q:=by
  refine hi.run Γ σ H ρ st _ _ R G h.bind fun iw st1 H1 ρ1 J eq x1 R1 G1 ok hl src h1=>?_
  refine comp_body hg he ht hf R1 G1 src hl (acc_noX (E':=E0) h1) fun ys st2 H2 ρ2 acc vs eq2 x2 R2 hm hn ha ry=>?_
  refine k ys st2 H2 ρ2 acc vs ?_ (x1.trans x2) R2 hm ?_ ha ry
  · unfold mCompN
    rw [eq]
    show noX _=_
    rw [eq2]; rfl
  cases e:H acc with
  | none=>rfl
  | some o=>
    obtain ⟨o',e'⟩:=x1.old acc o e
    rw [hn] at e'; cases e'
theorem pg_a {N':List Str} {sc:Scope} {tg:Expr}:∀ cl C s0 H0 ex,PG (blkC X N' sc cl C s0 H0 ex) tg (aG X N' sc tg):=fun cl C s0 H0 ex pins s σ H v u Q I r h=>pg_x pins s σ H v u Q I r (h cl C s0 H0 ex)
theorem pe_a {N':List Str} {sc:Scope} {e:Expr}:∀ cl C s0 H0 ex,PE (blkC X N' sc cl C s0 H0 ex) e (aE X N' sc e):=fun cl C s0 H0 ex pins s σ H Q I h=>h cl C s0 H0 ex pins s I
theorem pts_a {N':List Str} {sc:Scope} {ifs:List Expr}:∀ cl C s0 H0 ex,PTs (blkC X N' sc cl C s0 H0 ex) ifs (aT X N' sc ifs):=fun cl C s0 H0 ex pins s σ H Q I h=>by
  obtain ⟨t,a,b⟩:=h cl C s0 H0 ex
  exact a pins s σ H Q I b
theorem sn_comp (cap:List (Option Nat)) (N':List Str) (hcalm:X.calm=true) (hi:SimI X E tg iter mi) (hg:∀ cl C s0 H0 ex,SimG (blkC X N' sc cl C s0 H0 ex) tg ga) (he:∀ cl C s0 H0 ex,SimE (blkC X N' sc cl C s0 H0 ex) E0 elt me) (ht:∀ cl C s0 H0 ex,SimTs (blkC X N' sc cl C s0 H0 ex) ifs mt)
    (hf:FreeT cap ga) (hN:X.N=N:=by rfl) (hE:X.env.scope=scE:=by rfl) (hc:compOkC N N' sc scE cap=true:=by kernel_rfl) (hs:∀ x,foldedSetIterable iter X.env x=pure x:=by intro _; rfl) :
    SimN X E (.ListComp elt [⟨tg,iter,ifs,0⟩] sc pos) (mCompN cap ga mi mt me):=
  ⟨fun Γ σ H ρ st P Q R G h k=>WE.of (pe_compT hcalm pi_w pg_a pe_a pts_a hN hE hc hs) (comp_run hi hg he ht hf R G h k)⟩
end
end Sm
namespace Sm
open PySem PySem.Spec L2
inductive SR where
  | nx (Γ:Gam) (st:Q0) | rt (v:PV) (st:Q0) | bk (Γ:Gam) (st:Q0) | ct (Γ:Gam) (st:Q0) | exc (x:Exc) (st:Q0) | stuck
abbrev MS:=Gam->Q0->SR
def Res.sbind {α:Type} (r:Res α) (f:α->Q0->SR):SR:=match r with
  | .ok a st=>f a st
  | .exc x st=>.exc x st
  | .stuck=>.stuck
def AccS (mg:Str->Option Value) (E:XK) (D:Ends) (H:Hp) (ρ:Tk):SR->Prop
  | .nx Γ st=>∀ σ' H' ρ',Ext H ρ H' ρ'->Rel H' ρ' st->EnvR H' ρ' Γ σ'->D.nx σ' H'
  | .bk Γ st=>∀ σ' H' ρ',Ext H ρ H' ρ'->Rel H' ρ' st->EnvR H' ρ' Γ σ'->D.bk σ' H'
  | .ct Γ st=>∀ σ' H' ρ',Ext H ρ H' ρ'->Rel H' ρ' st->EnvR H' ρ' Γ σ'->D.ct σ' H'
  | .rt p st=>∀ v H' ρ',Ext H ρ H' ρ'->Rel H' ρ' st->Rep H' ρ' p v->D.rt v H'
  | .exc x st=>∀ C dv H' ρ',mg x.cls=some (.ref C)->Ext H ρ H' ρ'->Rel H' ρ' st->XFs H' ρ' x.fs dv->E (.ref C) dv H'
  | .stuck=>False
section
variable {α:Type} {mg:Str->Option Value} {E:XK} {D:Ends} {H H1:Hp} {ρ ρ1:Tk}
theorem AccS.later {r:SR} (h:AccS mg E D H ρ r) (x:Ext H ρ H1 ρ1):AccS mg E D H1 ρ1 r:=by
  cases r with
  | nx Γ st=>exact fun σ' H' ρ' x'=>h σ' H' ρ' (x.trans x')
  | bk Γ st=>exact fun σ' H' ρ' x'=>h σ' H' ρ' (x.trans x')
  | ct Γ st=>exact fun σ' H' ρ' x'=>h σ' H' ρ' (x.trans x')
  | rt p st=>exact fun v H' ρ' x'=>h v H' ρ' (x.trans x')
  | exc y st=>exact fun C dv H' ρ' m x'=>h C dv H' ρ' m (x.trans x')
  | stuck=>exact h
theorem AccS.bind {r:Res α} {f:α->Q0->SR} (h:AccS mg E D H ρ (r.sbind f)):Acc mg E H ρ (fun a st1 H1 ρ1=>AccS mg E D H1 ρ1 (f a st1)) r:=by
  cases r with
  | ok a st=>exact fun H' ρ' x' R'=>AccS.later (show AccS mg E D H ρ (f a st) from h) x'
  | exc e st=>exact h
  | stuck=>exact h
end
structure SimS (X:Cx) (E:XK) (s:Stmt) (m:MS):Prop where
  run:∀ (Γ:Gam) (σ:St) (H:Hp) (ρ:Tk) (st:Q0) (D:Ends),Rel H ρ st->EnvR H ρ Γ σ->AccS X.mg E D H ρ (m Γ st)->WS X s D σ H
structure SimB (X:Cx) (E:XK) (ss:List Stmt) (m:MS):Prop where
  run:∀ (Γ:Gam) (σ:St) (H:Hp) (ρ:Tk) (st:Q0) (D:Ends),Rel H ρ st->EnvR H ρ Γ σ->AccS X.mg E D H ρ (m Γ st)->WB X ss D σ H
section
variable {X:Cx} {E:XK} {pos:Pos} {e:Expr} {m:ME}
def mNext:MS:=fun Γ st=>.nx Γ st
def mSeqS (m1 m2:MS):MS:=fun Γ st=>match m1 Γ st with
  | .nx Γ1 st1=>m2 Γ1 st1
  | r=>r
theorem sb_nil:SimB X E [] mNext:=⟨fun Γ σ H ρ st D R G h=>WB.of pss_nil (h σ H ρ (Ext.refl _ _) R G)⟩
theorem Qa {s:Stmt} {rest:List Stmt} {m1 m2:MS} (h1:SimS X E s m1) (h2:SimB X E rest m2):SimB X E (s :: rest) (mSeqS m1 m2):=
  ⟨fun Γ σ H ρ st D R G h=>WB.of (pss_cons ps_w pss_w) (h1.run Γ σ H ρ st _ R G (by
    unfold mSeqS at h
    cases r:m1 Γ st with
    | nx Γ1 st1=>rw [r] at h; exact fun σ' H' ρ' x' R' G'=>h2.run Γ1 σ' H' ρ' st1 D R' G' (AccS.later h x')
    | bk Γ1 st1=>rw [r] at h; exact h
    | ct Γ1 st1=>rw [r] at h; exact h
    | rt p st1=>rw [r] at h; exact h
    | exc x st1=>rw [r] at h; exact h
    | stuck=>rw [r] at h; exact h))⟩
theorem sb_one {s:Stmt} {m1:MS} (h1:SimS X E s m1):SimB X E [s] m1:=⟨fun Γ σ H ρ st D R G h=>WB.of (pss_one ps_w) (h1.run Γ σ H ρ st D R G h)⟩
def mBreak:MS:=fun Γ st=>.bk Γ st
theorem ss_break:SimS X E (.Break pos) mBreak:=⟨fun Γ σ H ρ st D R G h=>WS.of ps_break (h σ H ρ (Ext.refl _ _) R G)⟩
def mExpr (m:ME):MS:=fun Γ st=>(m Γ st).sbind fun _ st1=>.nx Γ st1
theorem ss_expr (he:SimE X E e m) (hs:swapsWith e none pos.line X.env=pure false:=by rfl):SimS X E (.Expr e pos) (mExpr m):=
  ⟨fun Γ σ H ρ st D R G h=>WS.of (ps_expr pe_w hs) (he.use R G h.bind fun p st1 H1 ρ1 v x1 R1 G1 r1 h1=>h1 σ H1 ρ1 (Ext.refl _ _) R1 G1)⟩
def mRet (m:ME):MS:=fun Γ st=>(m Γ st).sbind fun p st1=>.rt p st1
theorem ss_ret (he:SimE X E e m):SimS X E (.Return (some e) pos) (mRet m):=
  ⟨fun Γ σ H ρ st D R G h=>WS.of (ps_ret pe_w) (he.use R G h.bind fun p st1 H1 ρ1 v x1 R1 G1 r1 h1=>h1 v H1 ρ1 (Ext.refl _ _) R1 r1)⟩
def mRetN:MS:=fun _ st=>.rt .non st
def mSet (i:Nat) (m:ME):MS:=fun Γ st=>(m Γ st).sbind fun p st1=>.nx (Γ.set i (some p)) st1
theorem ss_set (i:Nat) {x:Str} {pos':Pos} (hN:X.N.Nodup) (he:SimE X E e m) (hi:X.N[i]?=some x:=by rfl) (hx:Loc X.env.scope x:=by first | exact Or.inl rfl | exact Or.inr rfl) (hs:swapsWith e (some (.Name x pos')) pos.line X.env=pure false:=by rfl) (hf:X.fn x=true\/X.env.scope.names.lookup x=some .local:=by first | exact .inl rfl | exact .inr rfl) :
    SimS X E (.Assign [.Name x pos'] e pos) (mSet i m):=
  ⟨fun Γ σ H ρ st D R G h=>WS.of (ps_set hN hi hx pe_w hs hf) (he.use R G h.bind fun p st1 H1 ρ1 v x1 R1 G1 r1 h1=>h1 _ H1 ρ1 (Ext.refl _ _) R1 (G1.set r1 i))⟩
section
variable {tg iter elt:Expr} {ifs:List Expr} {N N':List Str} {sc scE:Scope} {ga:GA} {mi:MI} {mt:MT} {me:ME}
end
def mAsg (ga:GA) (m:ME):MS:=fun Γ st=>(m Γ st).sbind fun p st1=>match ga p Γ with
  | some Γ1=>.nx Γ1 st1
  | none=>.stuck
theorem ss_asg {tg:Expr} {ga:GA} (he:SimE X E e m) (hg:SimG X tg ga) (hs:swapsWithSole [tg] e pos.line X.env=pure false:=by rfl) (hw:swappedStores [tg] e X.env=pure none:=by rfl) (h1:(assignEach [tg] X.env).map (·.2)=[assign tg X.env]:=by rfl):SimS X E (.Assign [tg] e pos) (mAsg ga m):=
  ⟨fun Γ σ H ρ st D R G h=>WS.of (ps_asg pe_w pg_x hs hw h1) (he.use R G h.bind fun p st1 H1 ρ1 v x1 R1 G1 r1 h1=>by
    cases eg:ga p Γ with
    | none=>rw [eg] at h1; exact h1.elim
    | some Γ1=>
      rw [eg] at h1
      exact hg.run Γ Γ1 σ H1 ρ1 p v _ G1 r1 eg fun σ' G'=>h1 σ' H1 ρ1 (Ext.refl _ _) R1 G')⟩
def setIx (st:Q0) (o i p:PV):Option Q0:=match o,i with
  | .ref k,.int j=>match st[k]? with
    | some (.lst xs)=>(ixN xs.length j).map fun n=>st.set k (.lst (xs.set n p))
    | _=>none
  | _,_=>none
def mSetIx (mo mi m:ME):MS:=fun Γ st=>(m Γ st).sbind fun p st1=>(mo Γ st1).sbind fun o st2=>(mi Γ st2).sbind fun i st3=>match setIx st3 o i p with
  | some st4=>.nx Γ st4
  | none=>.stuck
theorem set_run {H:Hp} {ρ:Tk} {st st':Q0} {o i p:PV} {x y z:V} (R:Rel H ρ st) (ro:Rep H ρ o x) (ri:Rep H ρ i y) (rp:Rep H ρ p z) (e:setIx st o i p=some st') :
    ∃ a vs k j,x=.ref a/\y=.int k/\H a=some (.lst vs)/\ixN vs.length k=some j/\Ext H ρ (upd H a (.lst (vs.set j z))) ρ/\Rel (upd H a (.lst (vs.set j z))) ρ st':=by
  unfold setIx at e
  split at e
  · rename_i k j
    split at e
    · rename_i xs hs
      cases ej:ixN xs.length j with
      | none=>rw [ej] at e; cases e
      | some n=>
        rw [ej] at e
        have e:st.set k (.lst (xs.set n p))=st':=Option.some.inj e
        subst e
        obtain ⟨a,ea,rfl⟩:=ro
        cases ri
        obtain ⟨b,vs,f1,f2,f3⟩:=R.lst hs
        rw [ea] at f1; cases f1
        exact ⟨a,vs,j,n,rfl,rfl,f2,by rw [<- f3.length]; exact ej,Ext.put (List.mem_of_getElem? ea) f2,R.put ea f2 (f3.set rp n)⟩
    · cases e
  · cases e
theorem ss_sub {o i:Expr} {mo mi:ME} {tpos:Pos} (he:SimE X E e m) (ho:SimE X E o mo) (hi:SimE X E i mi)
    (ha:∀ v,assign (.Subscript o i tpos) X.env v=(do
      let ov <- holding [v] (eval o X.env)
      let iv <- holding [v,ov] (eval i X.env)
      standAt tpos
      holding [v,ov,iv] (setItem ov iv v)
      release [v,ov,iv] []):=by intro _; rfl)
    (hs:swapsWithSole [.Subscript o i tpos] e pos.line X.env=pure false:=by rfl) (hw:swappedStores [.Subscript o i tpos] e X.env=pure none:=by rfl) (h1:(assignEach [.Subscript o i tpos] X.env).map (·.2)=[assign (.Subscript o i tpos) X.env]:=by rfl) :
    SimS X E (.Assign [.Subscript o i tpos] e pos) (mSetIx mo mi m):=
  ⟨fun Γ σ H ρ st D R G h=>WS.of (ps_asg pe_w (pg_sub pe_w pe_w set_list ha) hs hw h1) (he.use R G h.bind fun p st1 H1 ρ1 z x1 R1 G1 r1 h1=>ho.use R1 G1 h1.bind fun ov st2 H2 ρ2 x x2 R2 G2 r2 h2=>hi.use R2 G2 h2.bind fun iv st3 H3 ρ3 y x3 R3 G3 r3 h3=>by
    cases es:setIx st3 ov iv p with
    | none=>rw [es] at h3; exact h3.elim
    | some st4=>
      rw [es] at h3
      obtain ⟨a,vs,k,j,rfl,rfl,f1,f2,x4,R4⟩:=set_run R3 (r2.ext x3) r3 (r1.ext (x2.trans x3)) es
      exact ⟨a,vs,k,j,rfl,rfl,f1,f2,h3 σ _ ρ3 x4 R4 (G3.ext x4)⟩)⟩
def mIfS (mt:MT) (ma mb:MS):MS:=fun Γ st=>(mt Γ st).sbind fun b st1=>if b=true then ma Γ st1 else mb Γ st1
theorem ss_if {c:Expr} {a b:List Stmt} {mt:MT} {ma mb:MS} (hc:SimT X E c mt) (ha:SimB X E a ma) (hb:SimB X E b mb):SimS X E (.If c a b pos) (mIfS mt ma mb):=
  ⟨fun Γ σ H ρ st D R G h=>WS.of (ps_if pt_w pss_w pss_w) (hc.use R G h.bind fun k st1 H1 ρ1 x1 R1 G1 h1=>by
    cases k with
    | true=>rw [if_pos rfl] at h1 ⊢; exact ha.run Γ σ H1 ρ1 st1 D R1 G1 h1
    | false=>rw [if_neg Bool.false_ne_true] at h1 ⊢; exact hb.run Γ σ H1 ρ1 st1 D R1 G1 h1)⟩
open Classical in
def forG (ga:GA) (body:MS) (w:Wt):List PV->Gam->Q0->SR
  | [],Γ,st=>if wOk w st then .nx Γ st else .stuck
  | x :: xs,Γ,st=>if wOk w st then (match ga x Γ with
    | none=>.stuck
    | some Γ1=>match body Γ1 st with
      | .nx Γ2 st2=>forG ga body w xs Γ2 st2
      | .ct Γ2 st2=>forG ga body w xs Γ2 st2
      | .bk Γ2 st2=>.nx Γ2 st2
      | .rt v st2=>.rt v st2
      | .exc x st2=>.exc x st2
      | .stuck=>.stuck) else .stuck
def mFor (ga:GA) (mi:MI) (body:MS):MS:=fun Γ st=>(mi Γ st).sbind fun iw st1=>forG ga body iw.2 iw.1 Γ st1
theorem ss_for {tg iter:Expr} {bd:List Stmt} {ga:GA} {mi:MI} {body:MS} (hp:PassesOwn (model X.prog X.w) X.A X.env X.xe) (hc:X.calm=true) (hi:SimI X E tg iter mi) (hg:SimG X tg ga) (hb:SimB X E bd body)
    (hs:∀ x,foldedSetIterable iter X.env x=pure x:=by intro _; rfl):SimS X E (.For tg iter bd [] pos) (mFor ga mi body):=
  ⟨fun Γ σ H ρ st D R G h=>WS.of (ps_for hp hc pi_w pg_x pss_w hs) (hi.run Γ σ H ρ st _ _ R G h.bind fun iw st1 H1 ρ1 J eq x1 R1 G1 ok hl src h1=>by
    let W:Nat->Nat->St->Hp->Prop:=fun i m σ' H'=>m=iw.1.length - i/\i<=iw.1.length/\∃ Γ' ρ' st',Ext H1 ρ1 H' ρ'/\Rel H' ρ' st'/\EnvR H' ρ' Γ' σ'/\AccS X.mg E D H' ρ' (forG ga body iw.2 (iw.1.drop i) Γ' st')
    refine ⟨W,⟨_,rfl,Nat.zero_le _,Γ,ρ1,st1,Ext.refl _ _,R1,G1,by rw [List.drop_zero]; exact h1⟩,?_⟩
    rintro i m σ' H' ⟨hm,hi',Γ',ρ',st',x,R',G',hA⟩
    by_cases hlt:i < iw.1.length
    · right
      have hd:iw.1.drop i=iw.1[i] :: iw.1.drop (i + 1):=List.drop_eq_getElem_cons hlt
      rw [hd,forG] at hA
      by_cases hw:wOk iw.2 st'
      · rw [if_pos hw] at hA
        refine ⟨src.go H' ρ' st' x R' hw i hlt,fun σ2 H2=>W (i + 1) (iw.1.length - (i + 1)) σ2 H2,fun σ2 H2 z=>⟨_,by omega,z⟩,fun y H2 hy=>?_⟩
        obtain ⟨sm,ry⟩:=src.yld H' ρ' st' x R' hw i _ (List.getElem?_eq_getElem hlt) y H2 hy
        have x2:Ext H' ρ' H2 ρ':=Ext.same sm
        cases eg:ga iw.1[i] Γ' with
        | none=>rw [eg] at hA; exact hA.elim
        | some Γ1=>
          rw [eg] at hA
          refine hg.run Γ' Γ1 σ' H2 ρ' _ y _ (G'.ext x2) ry eg fun σ3 G3=>?_
          have hA2:=AccS.later hA x2
          simp only at hA2
          refine hb.run Γ1 σ3 H2 ρ' st' _ (R'.same sm) G3 ?_
          have again:∀ {Γ2:Gam} {st2:Q0},AccS X.mg E D H2 ρ' (forG ga body iw.2 (iw.1.drop (i + 1)) Γ2 st2)->∀ σ' H'' ρ'',Ext H2 ρ' H'' ρ''->Rel H'' ρ'' st2->EnvR H'' ρ'' Γ2 σ'->W (i + 1) (iw.1.length - (i + 1)) σ' H'':=fun {Γ2 st2} a σ4 H4 ρ4 x4 R4 G4=>
            ⟨rfl,hlt,Γ2,ρ4,st2,x.trans (x2.trans x4),R4,G4,AccS.later a x4⟩
          cases rb:body Γ1 st' with
          | nx Γ2 st2=>rw [rb] at hA2; exact again hA2
          | ct Γ2 st2=>rw [rb] at hA2; exact again hA2
          | bk Γ2 st2=>rw [rb] at hA2; exact hA2
          | rt v st2=>rw [rb] at hA2; exact hA2
          | exc y st2=>rw [rb] at hA2; exact hA2
          | stuck=>rw [rb] at hA2; exact hA2.elim
      · rw [if_neg hw] at hA; exact hA.elim
    · left
      have ei:i=iw.1.length:=by omega
      subst ei
      rw [List.drop_length,forG] at hA
      by_cases hw:wOk iw.2 st'
      · rw [if_pos hw] at hA
        exact ⟨src.stop H' ρ' st' x R' hw,hA σ' H' ρ' (Ext.refl _ _) R' G'⟩
      · rw [if_neg hw] at hA; exact hA.elim)⟩
def whileG (mt:MT) (body:MS):Nat->Gam->Q0->SR
  | 0,_,_=>.stuck
  | n + 1, Γ, st => (mt Γ st).sbind fun b st1 => if b = true then (match body Γ st1 with
      | .nx Γ2 st2=>whileG mt body n Γ2 st2
      | .ct Γ2 st2=>whileG mt body n Γ2 st2
      | .bk Γ2 st2=>.nx Γ2 st2
      | .rt v st2=>.rt v st2
      | .exc x st2=>.exc x st2
      | .stuck=>.stuck) else .nx Γ st1
theorem ss_while (n:Nat) {c:Expr} {bd:List Stmt} {mt:MT} {body:MS} (hp:PassesOwn (model X.prog X.w) X.A X.env X.xe) (hc:SimT X E c mt) (hb:SimB X E bd body):SimS X E (.While c bd [] pos) (whileG mt body n):=
  ⟨fun Γ σ H ρ st D R G h=>WS.of (ps_while hp pt_w pss_w) (by
    let W:Nat->St->Hp->Prop:=fun m σ' H'=>∃ Γ' ρ' st',Rel H' ρ' st'/\EnvR H' ρ' Γ' σ'/\AccS X.mg E D H' ρ' (whileG mt body m Γ' st')
    refine ⟨W,⟨n,Γ,ρ,st,R,G,h⟩,?_⟩
    rintro m σ' H' ⟨Γ',ρ',st',R',G',hA⟩
    cases m with
    | zero=>exact hA.elim
    | succ m=>
      rw [whileG] at hA
      refine hc.use R' G' hA.bind fun b st1 H1 ρ1 x1 R1 G1 h1=>?_
      cases b with
      | false=>rw [if_neg Bool.false_ne_true] at h1 ⊢; exact h1 σ' H1 ρ1 (Ext.refl _ _) R1 G1
      | true=>
        rw [if_pos rfl] at h1 ⊢
        refine ⟨fun σ2 H2=>W m σ2 H2,fun σ2 H2 z=>⟨m,Nat.lt_succ_self _,z⟩,hb.run Γ' σ' H1 ρ1 st1 _ R1 G1 ?_⟩
        have again:∀ {Γ2:Gam} {st2:Q0},AccS X.mg E D H1 ρ1 (whileG mt body m Γ2 st2)->∀ σ' H'' ρ'',Ext H1 ρ1 H'' ρ''->Rel H'' ρ'' st2->EnvR H'' ρ'' Γ2 σ'->W m σ' H'':=fun {Γ2 st2} a σ4 H4 ρ4 x4 R4 G4=>⟨Γ2,ρ4,st2,R4,G4,AccS.later a x4⟩
        cases rb:body Γ' st1 with
        | nx Γ2 st2=>rw [rb] at h1; exact again h1
        | ct Γ2 st2=>rw [rb] at h1; exact again h1
        | bk Γ2 st2=>rw [rb] at h1; exact h1
        | rt v st2=>rw [rb] at h1; exact h1
        | exc y st2=>rw [rb] at h1; exact h1
        | stuck=>rw [rb] at h1; exact h1.elim)⟩
def mRaise (x:Str) (m:ME):MS:=fun Γ st=>(m Γ st).sbind fun _ st1=>.exc ⟨x,none⟩ st1
theorem ss_raise {x:Str} {C:Addr} {np cpos:Pos} (hcalm:X.calm=true) (RO:RaiseD X E) (hg:Gl X x) (hm:X.mg x=some (.ref C)) (q:PySem.W.excIn X.K C bmVE "ValueError.__new__" = true) (he:SimE X E e m)
    (hdb:(x == ("__debug__" : Str))=false:=by decide) (hst:starEach [e] X.env=[(false,eval e X.env)]:=by rfl):SimS X E (.Raise (some (.Call (.Name x np) [e] [] cpos)) none pos) (mRaise x m):=
  ⟨fun Γ σ H ρ st D R G h=>WS.of (ps_raiseD hcalm RO hg hm q (pa_cons pe_w pa_nil (by rw [hst]; rfl)) hdb hst) (he.use R G h.bind fun p st1 H1 ρ1 v x1 R1 G1 r1 h1=>⟨Nat.le_trans (show 1<=lim by decide) lim_le,h1 C none H1 ρ1 hm (Ext.refl _ _) R1 rfl⟩)⟩
end
end Sm
namespace Sm
open PySem PySem.Spec L2
def WM (X:Cx) (id:String):V->List V->Hp->VK->Prop:=fun x xs H Q=>∀ (pins:List (Addr × Obj)) (s:Shared) (σ:St) (v:Value) (us:List Value),Inv X pins σ H s->RelV x v->Vals xs us->wpAny (model X.prog X.w) X.A (call (.builtin id) (v :: us)) (EP X pins σ Q) X.xe s
theorem mt_w {X:Cx} {id:String}:MtR X id (WM X id):=fun pins s σ _ _ _ v us _ I r rs h=>h pins s σ v us I r rs
theorem WM.of {X:Cx} {id:String} {r:V->List V->Hp->VK->Prop} {x:V} {xs:List V} {H:Hp} {Q:VK} (h:MtR X id r) (q:r x xs H Q):WM X id x xs H Q:=fun pins s σ v us I r1 r2=>h pins s σ H x xs v us Q I r1 r2 q
abbrev MF:=Q0->PV->List PV->Res PV
structure MtS (X:Cx) (E:XK) (id:String) (o:MF):Prop where
  run:∀ (H:Hp) (ρ:Tk) (st:Q0) (p:PV) (ps:List PV) (x:V) (xs:List V) (Q:VK),Rel H ρ st->Rep H ρ p x->RepL H ρ ps xs->Acc X.mg E H ρ (QV Q) (o st p ps)->WM X id x xs H Q
section
variable {X:Cx} {E:XK} {o e:Expr} {es:List Expr} {mo:ME} {mr:Gam->Q0->Res (List PV)} {name:Str} {apos cpos:Pos} {T id:String} {f:MF}
def mBM (f:MF) (mo:ME) (mr:Gam->Q0->Res (List PV)):ME:=fun Γ st=>(mo Γ st).bind fun p st1=>match listOf st1 p with
  | some _=>(mr Γ st1).bind fun ps st2=>f st2 p ps
  | none=>.stuck
theorem se_bm (pa:PlainAttrs "list") (slot:Slot "list" name id) (hty:typeOf (.builtin id)=pure (.type "method_descriptor")) (hm:MtS X E id f) (ho:SimE X E o mo) (ha:SimA X E (e :: es) mr)
    (hbase:attributeBase o name X.env (eval o X.env)=eval o X.env:=by rfl)
    (hfew:((backTo cpos (starEach (e :: es) X.env)).all (fun x=>!x.1) && (backToKw cpos (keywordEach [] X.env)).all (fun x=>x.1.isSome)
      && decide ((e :: es).length + ([]:List Keyword).length + (if ([]:List Keyword).isEmpty then 0 else 1) < 30))=true:=by rfl)
    (hline:(apos.endLine == cpos.line)=true:=by rfl) (hs:starEach (e :: es) X.env=(false,eval e X.env) :: starEach es X.env:=by rfl) (hplain:(backTo cpos (starEach es X.env)).any (·.1)=false:=by rfl) :
    SimE X E (.Call (.Attribute o name apos) (e :: es) [] cpos) (mBM f mo mr):=
  ⟨fun Γ σ H ρ st Q R G h=>WE.of (pe_bm pa slot hty mt_w pe_w pa_w hbase hfew hline hs hplain) (ho.use R G h.bind fun p st1 H1 ρ1 v x1 R1 G1 r1 h1=>by
    split at h1
    · rename_i ys el
      obtain ⟨a,vs,rfl,hr,_⟩:=list_at R1 r1 el
      exact ⟨.inl ⟨rfl,vs,.inl hr⟩,ha.use R1 G1 h1.bind fun ps st2 H2 ρ2 us x2 R2 G2 r2 h2=>hm.run H2 ρ2 st2 p ps _ us Q R2 (r1.ext x2) r2 h2⟩
    · exact h1.elim)⟩
def chg (st:Q0) (p:PV) (g:List PV->Option (PV × List PV)):Res PV:=match p with
  | .ref i=>match st[i]? with
    | some (.lst xs)=>match g xs with
      | some (r,ys)=>.ok r (st.set i (.lst ys))
      | none=>.stuck
    | _=>.stuck
  | _=>.stuck
theorem chg_run {mg:Str->Option Value} {H:Hp} {ρ:Tk} {st:Q0} {p:PV} {x:V} {g:List PV->Option (PV × List PV)} {Q:VK} (R:Rel H ρ st) (rp:Rep H ρ p x) (h:Acc mg E H ρ (QV Q) (chg st p g)) :
    ∃ a xs vs r ys,x=.ref a/\H a=some (.lst vs)/\RepL H ρ xs vs/\g xs=some (r,ys)/\∀ us v,RepL H ρ ys us->Rep H ρ r v->Q v (upd H a (.lst us)):=by
  unfold chg at h
  split at h
  · rename_i i
    split at h
    · rename_i xs hs
      split at h
      · rename_i r ys hg
        obtain ⟨a,ea,rfl⟩:=rp
        obtain ⟨b,vs,f1,f2,f3⟩:=R.lst hs
        rw [ea] at f1; cases f1
        refine ⟨a,xs,vs,r,ys,rfl,f2,f3,hg,fun us v ru rv=>?_⟩
        have x:=Ext.put (o':=.lst us) (List.mem_of_getElem? ea) f2
        exact h _ ρ x (R.put ea f2 ru) v (rv.ext x)
      · exact h.elim
    · exact h.elim
  · exact h.elim
def mtAppend:MF:=fun st p ps=>match ps with
  | [y]=>chg st p fun xs=>if xs.length < lim then some (.non,xs ++ [y]) else none
  | _=>.stuck
def mtExtend:MF:=fun st p ps=>match ps with
  | [q]=>match lstOf st q with
    | some ys=>chg st p fun xs=>if xs.length + ys.length<=lim then some (.non,xs ++ ys) else none
    | none=>.stuck
  | _=>.stuck
theorem ms_extend:MtS X E "list.extend" mtExtend:=⟨fun H ρ st p ps x xs Q R rp rs h=>by
  unfold mtExtend at h
  split at h
  · obtain ⟨v,rfl,r⟩:=repL_one rs
    split at h
    · rename_i ws ew
      obtain ⟨b,us,rfl,hb,rb⟩:=lst_at R r ew
      obtain ⟨a,ys,vs,r0,zs,rfl,f1,f2,f3,k⟩:=chg_run R rp h
      split at f3
      · rename_i hl
        cases f3
        exact WM.of mt_extend ⟨a,b,vs,us,rfl,rfl,f1,hb,by rw [<- f2.length,<- rb.length]; exact le_lim hl,k _ _ (f2.append rb) rfl⟩
      · cases f3
    · exact h.elim
  · exact h.elim⟩
theorem se_extend (ho:SimE X E o mo) (ha:SimA X E [e] mr) (hbase:attributeBase o "extend" X.env (eval o X.env)=eval o X.env:=by rfl)
    (hfew:((backTo cpos (starEach [e] X.env)).all (fun x=>!x.1) && (backToKw cpos (keywordEach [] X.env)).all (fun x=>x.1.isSome) && decide ([e].length + ([]:List Keyword).length + (if ([]:List Keyword).isEmpty then 0 else 1) < 30))=true:=by rfl)
    (hline:(apos.endLine == cpos.line)=true:=by rfl) (hs:starEach [e] X.env=(false,eval e X.env) :: starEach [] X.env:=by rfl):SimE X E (.Call (.Attribute o "extend" apos) [e] [] cpos) (mBM mtExtend mo mr):=
  se_bm PySem.F.plainAttrs_list PySem.F.slot_list_extend PySem.F.type_list_extend ms_extend ho ha hbase hfew hline hs
end
end Sm
namespace Sm
open PySem PySem.Spec L2
mutual
def fz (n:Nat) (st:Q0):Nat->PV->Option PV
  | 0,_=>none
  | _ + 1,.non=>some .non
  | _ + 1,.bl b=>some (.bl b)
  | _ + 1,.int i=>some (.int i)
  | _ + 1,.str x=>some (.str x)
  | k + 1,.tup xs=>(fzL n st k xs).map .tup
  | k + 1,.lst xs=>(fzL n st k xs).map .lst
  | k + 1,.fro xs=>(fzL n st k xs).map .fro
  | _ + 1,.dic=>some .dic
  | k + 1,.ref i=>if i < n then some (.ref i) else match st[i]? with
    | some (.lst xs)=>(fzL n st k xs).map .lst
    | _=>none
def fzL (n:Nat) (st:Q0):Nat->List PV->Option (List PV)
  | _,[]=>some []
  | k,x :: xs=>(fz n st k x).bind fun y=>(fzL n st k xs).map (y :: ·)
end
theorem fz_good {n:Nat} {st:Q0}:∀ {m k:Nat} {p:PV},good m p=true->m < k->fz n st k p=some p:=by
  intro m
  induction m with
  | zero=>
    intro k p g hk
    obtain ⟨k,rfl⟩:∃ j,k=j + 1:=⟨k - 1,by omega⟩
    cases p with
    | tup _=>cases g
    | lst _=>cases g
    | fro _=>cases g
    | ref _=>cases g
    | dic=>cases g
    | _=>rw [fz]
  | succ m ih=>
    intro k p g hk
    obtain ⟨k,rfl⟩:∃ j,k=j + 1:=⟨k - 1,by omega⟩
    have hL:∀ xs:List PV,xs.all (good m)=true->fzL n st k xs=some xs:=by
      intro xs
      induction xs with
      | nil=>intro _; rw [fzL]
      | cons x xs ihx=>
        intro g
        rw [List.all_cons,Bool.and_eq_true] at g
        rw [fzL,ih g.1 (by omega),ihx g.2]; rfl
    cases p with
    | tup xs=>rw [fz,hL xs g]; rfl
    | lst xs=>rw [fz,hL xs g]; rfl
    | fro xs=>rw [fz,hL xs g]; rfl
    | ref _=>cases g
    | dic=>cases g
    | _=>rw [fz]
section
variable {H:Hp} {ρ:Tk} {st:Q0} {tr0 rest hs:List Addr}
theorem fz_rep (R:Rel H ρ st) (ht:ρ.tr=tr0 ++ rest) (hh:∀ a,a ∈ hs->a ∈ ρ.hid):∀ (k:Nat) {p p':PV} {v:V},Rep H ρ p v->fz tr0.length st k p=some p'->Rep H ⟨tr0,hs⟩ p' v:=by
  have out:∀ a,a ∉ ρ->a ∉ (⟨tr0,hs⟩:Tk):=fun a n z=>by
    rcases z with z | z
    · exact n (.inl (by rw [ht]; exact List.mem_append_left _ z))
    · exact n (.inr (hh a z))
  intro k
  induction k with
  | zero=>intro p p' v r e; rw [fz] at e; cases e
  | succ k ih=>
    have hL:∀ {ps ps':List PV} {vs:List V},RepL H ρ ps vs->fzL tr0.length st k ps=some ps'->RepL H ⟨tr0,hs⟩ ps' vs:=by
      intro ps
      induction ps with
      | nil=>intro ps' vs r e; rw [fzL] at e; cases e; exact r
      | cons x xs ihx=>
        intro ps' vs r e
        obtain ⟨v,t,rfl,r1,r2⟩:=r
        rw [fzL] at e
        cases e1:fz tr0.length st k x with
        | none=>rw [e1] at e; cases e
        | some y=>
          rw [e1] at e
          have e:(fzL tr0.length st k xs).map (y :: ·)=some ps':=e
          cases e2:fzL tr0.length st k xs with
          | none=>rw [e2] at e; cases e
          | some ys=>
            rw [e2] at e
            cases e
            exact ⟨v,t,rfl,ih r1 e1,ihx r2 e2⟩
    intro p p' v r e
    cases p with
    | non=>rw [fz] at e; cases e; exact r
    | bl b=>rw [fz] at e; cases e; exact r
    | int i=>rw [fz] at e; cases e; exact r
    | str x=>rw [fz] at e; cases e; exact r
    | tup xs=>
      rw [fz] at e
      obtain ⟨a,vs,e1,ha,na,ra⟩:=r
      cases e2:fzL tr0.length st k xs with
      | none=>rw [e2] at e; cases e
      | some ys=>rw [e2] at e; cases e; exact ⟨a,vs,e1,ha,out a na,hL ra e2⟩
    | lst xs=>
      rw [fz] at e
      obtain ⟨a,vs,e1,ha,na,ra⟩:=r
      cases e2:fzL tr0.length st k xs with
      | none=>rw [e2] at e; cases e
      | some ys=>rw [e2] at e; cases e; exact ⟨a,vs,e1,ha,out a na,hL ra e2⟩
    | fro xs=>
      rw [fz] at e
      obtain ⟨a,vs,e1,ha,na,ra⟩:=r
      cases e2:fzL tr0.length st k xs with
      | none=>rw [e2] at e; cases e
      | some ys=>rw [e2] at e; cases e; exact ⟨a,vs,e1,ha,out a na,hL ra e2⟩
    | dic=>
      rw [fz] at e
      cases e
      obtain ⟨a,e1,ha,na⟩:=r
      exact ⟨a,e1,ha,out a na⟩
    | ref i=>
      rw [fz] at e
      obtain ⟨a,ea,rfl⟩:=r
      by_cases hi:i < tr0.length
      · rw [if_pos hi] at e
        cases e
        rw [ht,List.getElem?_append_left hi] at ea
        exact ⟨a,ea,rfl⟩
      · rw [if_neg hi] at e
        split at e
        · rename_i xs hs'
          obtain ⟨b,vs,f1,f2,f3⟩:=R.lst hs'
          rw [ea] at f1; cases f1
          cases e2:fzL tr0.length st k xs with
          | none=>rw [e2] at e; cases e
          | some ys=>
            rw [e2] at e; cases e
            refine ⟨a,vs,rfl,f2,fun z=>?_,hL f3 e2⟩
            rcases z with z | z
            · have z:a ∈ tr0:=z
              obtain ⟨j,hj,ej⟩:=List.getElem_of_mem z
              have g1:ρ.tr[j]?=some a:=by rw [ht,List.getElem?_append_left hj,List.getElem?_eq_getElem hj,ej]
              have l1:=List.getElem?_eq_some_iff.mp g1
              have l2:=List.getElem?_eq_some_iff.mp ea
              have:=nodup_inj R.nd l1.1 l2.1 (l1.2.trans l2.2.symm)
              omega
            · exact R.ap a (hh a z) (List.mem_of_getElem? ea)
        · cases e
mutual
def bel (n:Nat):PV->Prop
  | .tup xs=>belL n xs
  | .lst xs=>belL n xs
  | .fro xs=>belL n xs
  | .ref i=>i < n
  | _=>True
def belL (n:Nat):List PV->Prop
  | []=>True
  | x :: xs=>bel n x/\belL n xs
end
mutual
theorem Rep.bel:∀ {p:PV} {v:V},Rep H ρ p v->bel ρ.tr.length p
  | .non,_,_=>by simp [Sm.bel]
  | .bl _,_,_=>by simp [Sm.bel]
  | .int _,_,_=>by simp [Sm.bel]
  | .str _,_,_=>by simp [Sm.bel]
  | .tup ps,_,⟨_,_,_,_,_,r⟩=>by rw [Sm.bel]; exact RepL.bel r
  | .lst ps,_,⟨_,_,_,_,_,r⟩=>by rw [Sm.bel]; exact RepL.bel r
  | .fro ps,_,⟨_,_,_,_,_,r⟩=>by rw [Sm.bel]; exact RepL.bel r
  | .ref i,_,⟨_,e,_⟩=>by rw [Sm.bel]; exact (List.getElem?_eq_some_iff.mp e).1
  | .dic,_,_=>by simp [Sm.bel]
theorem RepL.bel:∀ {ps:List PV} {vs:List V},RepL H ρ ps vs->belL ρ.tr.length ps
  | [],_,_=>by simp [belL]
  | p :: ps,_,⟨_,_,_,r1,r2⟩=>by rw [belL]; exact ⟨Rep.bel r1,RepL.bel r2⟩
end
mutual
theorem Rep.less (ht:ρ.tr=tr0 ++ rest) (hh:∀ a,a ∈ hs->a ∈ ρ.hid):∀ {p:PV} {v:V},Sm.bel tr0.length p->Rep H ρ p v->Rep H ⟨tr0,hs⟩ p v
  | .non,_,_,r=>r
  | .bl _,_,_,r=>r
  | .int _,_,_,r=>r
  | .str _,_,_,r=>r
  | .tup ps,_,b,⟨a,vs,e,ha,na,r⟩=>⟨a,vs,e,ha,fun z=>na (z.imp (fun z=>by rw [ht]; exact List.mem_append_left _ z) (hh a)),RepL.less ht hh (by rw [Sm.bel] at b; exact b) r⟩
  | .lst ps,_,b,⟨a,vs,e,ha,na,r⟩=>⟨a,vs,e,ha,fun z=>na (z.imp (fun z=>by rw [ht]; exact List.mem_append_left _ z) (hh a)),RepL.less ht hh (by rw [Sm.bel] at b; exact b) r⟩
  | .fro ps,_,b,⟨a,vs,e,ha,na,r⟩=>⟨a,vs,e,ha,fun z=>na (z.imp (fun z=>by rw [ht]; exact List.mem_append_left _ z) (hh a)),RepL.less ht hh (by rw [Sm.bel] at b; exact b) r⟩
  | .ref i,_,b,⟨a,e,e2⟩=>⟨a,by rw [Sm.bel] at b; rw [ht,List.getElem?_append_left b] at e; exact e,e2⟩
  | .dic,_,_,⟨a,e,ha,na⟩=>⟨a,e,ha,fun z=>na (z.imp (fun z=>by rw [ht]; exact List.mem_append_left _ z) (hh a))⟩
theorem RepL.less (ht:ρ.tr=tr0 ++ rest) (hh:∀ a,a ∈ hs->a ∈ ρ.hid):∀ {ps:List PV} {vs:List V},belL tr0.length ps->RepL H ρ ps vs->RepL H ⟨tr0,hs⟩ ps vs
  | [],_,_,r=>r
  | p :: ps,_,b,⟨v,t,e,r1,r2⟩=>by
    rw [belL] at b
    exact ⟨v,t,e,Rep.less ht hh b.1 r1,RepL.less ht hh b.2 r2⟩
end
end
theorem rel_back {H H':Hp} {ρ ρ':Tk} {st st':Q0} (R:Rel H ρ st) (x:Ext H ρ H' ρ') (R':Rel H' ρ' st') (hp:st <+: st'):Ext H ρ H' ρ/\Rel H' ρ st:=by
  obtain ⟨rest,ht⟩:=x.pre
  obtain ⟨more,hm⟩:=hp
  refine ⟨⟨List.prefix_refl _,fun _ h=>h,fun _ h=>.inl h,x.keep,fun _ h=>.inl h,x.old,x.frz⟩,R.len,R.nd,fun a ha=>let ⟨o,e,n⟩:=R.hd a ha; ⟨o,x.keep a o e (R.ap a ha),n⟩,R.ap,fun i a c h1 h2=>?_⟩
  have hi:i < st.length:=(List.getElem?_eq_some_iff.mp h2).1
  have q:=R'.cell i a c (by rw [<- ht,List.getElem?_append_left (List.getElem?_eq_some_iff.mp h1).1]; exact h1) (by rw [<- hm,List.getElem?_append_left hi]; exact h2)
  have q0:=R.cell i a c h1 h2
  cases c with
  | lst ps=>
    obtain ⟨vs,e1,e2⟩:=q
    obtain ⟨us,_,f2⟩:=q0
    exact ⟨vs,e1,RepL.less (ρ:=ρ') (tr0:=ρ.tr) (hs:=ρ.hid) ht.symm x.hidM f2.bel e2⟩
  | dic ps=>
    obtain ⟨vs,e1,e2⟩:=q
    obtain ⟨us,_,f2⟩:=q0
    exact ⟨vs,e1,e2.1,RepL.less (ρ:=ρ') (tr0:=ρ.tr) (hs:=ρ.hid) ht.symm x.hidM f2.2.bel e2.2⟩
  | dtp ps=>
    obtain ⟨vs,e1,e2⟩:=q
    obtain ⟨us,_,f2⟩:=q0
    exact ⟨vs,e1,e2.1,RepL.less (ρ:=ρ') (tr0:=ρ.tr) (hs:=ρ.hid) ht.symm x.hidM f2.2.bel e2.2⟩
  | frd ps=>
    obtain ⟨vs,e1,e2⟩:=q
    obtain ⟨us,_,f2⟩:=q0
    exact ⟨vs,e1,e2.1,RepL.less (ρ:=ρ') (tr0:=ρ.tr) (hs:=ρ.hid) ht.symm x.hidM f2.2.bel e2.2⟩
abbrev FN:=List PV->Q0->Res PV
open Classical in
def fin (st:Q0) (v:PV) (st':Q0):Res PV:=if st <+: st' then okO st (fz st.length st' 16 v) else .ok v st'
open Classical in
def finX (st:Q0) (x:Exc) (st':Q0):Res PV:=if st <+: st' then (match x.fs with
  | none=>.exc x st
  | some (n,p)=>match fz st.length st' 16 p with
    | some q=>.exc ⟨x.cls,some (n,q)⟩ st
    | none=>.stuck) else .exc x st'
def callF (body:MS) (nl:Nat):FN:=fun ps st=>match body (ps.map some ++ List.replicate (nl - ps.length) none) st with
  | .rt v st'=>fin st v st'
  | .nx _ st'=>fin st .non st'
  | .exc x st'=>finX st x st'
  | _=>.stuck
theorem fin_acc {mg:Str->Option Value} {E:XK} {H:Hp} {ρ:Tk} {st st':Q0} {Q:VK} {p:PV} (R:Rel H ρ st) (h:Acc mg E H ρ (QV Q) (fin st p st')):∀ v H' ρ',Ext H ρ H' ρ'->Rel H' ρ' st'->Rep H' ρ' p v->Q v H':=fun v H' ρ' x R' r=>by
  unfold fin at h
  by_cases hp:st <+: st'
  · rw [if_pos hp] at h
    cases e:fz st.length st' 16 p with
    | none=>rw [e] at h; exact h.elim
    | some q=>
      rw [e] at h
      obtain ⟨x2,R2⟩:=rel_back R x R' hp
      obtain ⟨rest,ht⟩:=x.pre
      rw [<- R.len] at e
      exact h H' ρ x2 R2 v (fz_rep (tr0:=ρ.tr) (hs:=ρ.hid) R' ht.symm x.hidM 16 r e)
  · rw [if_neg hp] at h
    exact h H' ρ' x R' v r
def spF (mg:Str->Option Value) (n:Nat) (F:FN):Sp:=fun vs H Q E=>vs.length=n/\∃ ρ st ps,Rel H ρ st/\RepL H ρ ps vs/\Acc mg E H ρ (QV Q) (F ps st)
theorem start_env {H:Hp} {ρ:Tk} {N:List Str} {ps:List PV} {vs:List V} (r:RepL H ρ ps vs):EnvR H ρ (ps.map some ++ List.replicate (N.length - ps.length) none) (L2.start N vs):=by
  have hl:=r.length
  unfold L2.start
  refine ⟨by simp [hl],fun i p e=>?_⟩
  by_cases hi:i < ps.length
  · rw [List.getElem?_append_left (by simpa using hi),List.getElem?_map] at e
    rw [List.getElem?_append_left (by simp; omega),List.getElem?_map]
    cases q:ps[i]? with
    | none=>rw [q] at e; cases e
    | some p'=>
      rw [q] at e
      cases e
      obtain ⟨v,e1,e2⟩:=r.get q
      exact ⟨v,by rw [e1]; rfl,e2⟩
  · rw [List.getElem?_append_right (by simpa using hi),List.getElem?_replicate] at e
    split at e <;> cases e
section
variable {P:Program} {w:World} {K:PySem.W.Frag} {mg:Str->Option Value} {base:Heap}
theorem fun_ok {x qual:Str} {st:Stmt} {f:Addr} {fd:FuncData} {N ps:List Str} {k:Nat} {m:MS} (F:Fun K x qual st f fd) (S:FnScope N ps (Q7 st))
    (hb:∀ (cdv:Value) (A:Around) (outer:List PySem.Env) (s:Shared) (H:Hp) (E:XK),Room k (A.deeper (PyProof.Rows.envOfC qual (Q7 st) s.heap.objs.size f cdv))->SimB (cxD P w K mg base N qual (Q7 st) f cdv A outer s H E) E (defBody st) m) :
    FnOk P w K mg base (CXD P w) (k + 1) f fd ps (spF mg ps.length (callF m N.length)):=by
  refine Fun.okD F S (fun vs H Q E h=>h.1) fun cdv A outer s H vs Q E hr hsp=>⟨_,pss_w,?_⟩
  obtain ⟨hl,ρ,st0,pvs,R,rl,hA⟩:=hsp
  refine (hb cdv A outer s H E hr).run _ (L2.start N vs) H ρ st0 _ R (start_env rl) ?_
  unfold callF at hA
  cases rr:m (pvs.map some ++ List.replicate (N.length - pvs.length) none) st0 with
  | rt v st1=>rw [rr] at hA; exact fin_acc R hA
  | nx Γ st1=>rw [rr] at hA; exact fun σ' H' ρ' x' R' G'=>fin_acc R hA .non H' ρ' x' R' rfl
  | bk Γ st1=>rw [rr] at hA; exact hA.elim
  | ct Γ st1=>rw [rr] at hA; exact hA.elim
  | stuck=>rw [rr] at hA; exact hA.elim
  | exc y st1=>
    rw [rr] at hA
    have hA:Acc mg E H ρ (QV Q) (finX st0 y st1):=hA
    intro C dv H' ρ' hm x' R' hf
    unfold finX at hA
    by_cases hp:st0 <+: st1
    · rw [if_pos hp] at hA
      obtain ⟨x2,R2⟩:=rel_back R x' R' hp
      obtain ⟨cls,fs⟩:=y
      cases fs with
      | none=>exact hA C dv H' ρ hm x2 R2 hf
      | some np=>
        obtain ⟨nm,p⟩:=np
        simp only at hA
        cases e:fz st0.length st1 16 p with
        | none=>rw [e] at hA; exact hA.elim
        | some q=>
          rw [e] at hA
          obtain ⟨rest,ht⟩:=x'.pre
          rw [<- R.len] at e
          obtain ⟨dx,v,e1,e2,e3,e4⟩:=hf
          refine hA C dv H' ρ hm x2 R2 ⟨dx,v,e1,e2,fun z=>e3 (z.imp (fun z=>by rw [<- ht]; exact List.mem_append_left _ z) (x'.hidM dx)),fz_rep (tr0:=ρ.tr) (hs:=ρ.hid) R' ht.symm x'.hidM 16 e4 e⟩
    · rw [if_neg hp] at hA
      exact hA C dv H' ρ' hm x' R' hf
end
theorem fun_ok2 {P:Program} {w:World} {K:PySem.W.Frag} {mg:Str->Option Value} {base:Heap} {x qual:Str} {st:Stmt} {f:Addr} {fd:FuncData} {N ps:List Str} {k n nl:Nat} {m:MS} {FF:FN} (F:Fun K x qual st f fd) (S:FnScope N ps (Q7 st)) (hn:ps.length=n) (hnl:N.length=nl) (hF:FF=callF m nl)
    (hb:∀ (cdv:Value) (A:Around) (outer:List PySem.Env) (s:Shared) (H:Hp) (E:XK),Room k (A.deeper (PyProof.Rows.envOfC qual (Q7 st) s.heap.objs.size f cdv))->SimB (cxD P w K mg base N qual (Q7 st) f cdv A outer s H E) E (defBody st) m) :
    FnOk P w K mg base (CXD P w) (k + 1) f fd ps (spF mg n FF):=by
  subst hn; subst hnl; subst hF
  exact fun_ok F S hb
structure DefS (P:Program) (w:World) (K:PySem.W.Frag) (mg:Str->Option Value) (base:Heap) (k:Nat) (x:Str) (n:Nat) (F:FN):Prop where
  ex:∃ (f:Addr) (fd:FuncData) (ps:List Str),FnOk P w K mg base (CXD P w) k f fd ps (spF mg n F)/\mg x=some (.ref f)/\PySem.W.keepIn K (.ref f)=true/\Binds K fd ps []/\ps.length=n
def mCallF (n:Nat) (F:FN) (mr:Gam->Q0->Res (List PV)):ME:=fun Γ st=>(mr Γ st).bind fun ps st1=>if ps.length=n then F ps st1 else .stuck
section
variable {X:Cx} {E:XK} {k n:Nat} {x:Str} {F:FN} {p pos:Pos} {e:Expr} {es:List Expr} {mr:Gam->Q0->Res (List PV)}
theorem se_call (D:DefS X.prog X.w X.K X.mg X.base k x n F) (hr:Room k X.A) (hx:Passes (CXD X.prog X.w) X E) (hg:Gl X x) (ha:SimA X E (e :: es) mr) (hdb:(x == ("__debug__" : Str))=false:=by decide)
    (he:starEach (e :: es) X.env=(false,eval e X.env) :: starEach es X.env:=by rfl) (hpl:(backTo pos (starEach es X.env)).any (·.1)=false:=by rfl):SimE X E (.Call (.Name x p) (e :: es) [] pos) (mCallF n F mr):=by
  obtain ⟨f,fd,ps,hF,hm,hk,hb,hl⟩:=D.ex
  exact ⟨fun Γ σ H ρ st Q R G h=>WE.of (pe_call hF hr hg hm hk hb .nil hx pa_w hdb he hpl) (ha.use R G h.bind fun qs st1 H1 ρ1 vs x1 R1 G1 r1 h1=>by
    by_cases hq:qs.length=n
    · rw [if_pos hq] at h1
      show spF X.mg n F (vs ++ []) H1 Q E
      rw [List.append_nil]
      exact ⟨by rw [<- r1.length]; exact hq,ρ1,st1,qs,R1,r1,h1⟩
    · rw [if_neg hq] at h1; exact h1.elim)⟩
end
end Sm
namespace Sm
open PySem PySem.Spec L2
@[simp] theorem bind_ok {α β:Type} (a:α) (st:Q0) (f:α->Q0->Res β):(Res.ok a st).bind f=f a st:=rfl
@[simp] theorem bind_stuck {α β:Type} (f:α->Q0->Res β):(Res.stuck:Res α).bind f=.stuck:=rfl
@[simp] theorem bind_exc {α β:Type} (x:Exc) (st:Q0) (f:α->Q0->Res β):(Res.exc x st:Res α).bind f=.exc x st:=rfl
@[simp] theorem sbind_ok {α:Type} (a:α) (st:Q0) (f:α->Q0->SR):(Res.ok a st).sbind f=f a st:=rfl
@[simp] theorem sbind_stuck {α:Type} (f:α->Q0->SR):(Res.stuck:Res α).sbind f=.stuck:=rfl
@[simp] theorem sbind_exc {α:Type} (x:Exc) (st:Q0) (f:α->Q0->SR):(Res.exc x st:Res α).sbind f=.exc x st:=rfl
@[simp] theorem mVar_eq (i:Nat) (Γ:Gam) (st:Q0):Q5 i Γ st=(match Γ[i]? with | some (some p)=>.ok p st | _=>.stuck):=rfl
@[simp] theorem mC_eq (p:PV) (Γ:Gam) (st:Q0):mC p Γ st=.ok p st:=rfl
@[simp] theorem mOp_eq (o:OP) (a b:ME) (Γ:Gam) (st:Q0):mOp o a b Γ st=(a Γ st).bind fun x st1=>(b Γ st1).bind fun y st2=>o st2 x y:=rfl
@[simp] theorem asB_bl (b:Bool) (st:Q0):asB (.bl b) st=.ok b st:=rfl
@[simp] theorem toB_eq (m:ME) (Γ:Gam) (st:Q0):toB m Γ st=(m Γ st).bind asB:=rfl
def selB {α:Type} (x:PV) (A B:Res α):Res α:=match x with
  | .bl true=>A
  | .bl false=>B
  | _=>.stuck
@[simp] theorem selB_bl {α:Type} (b:Bool) (A B:Res α):selB (.bl b) A B=if b=true then A else B:=by cases b <;> rfl
@[simp] theorem mChain_eq (o o':OP) (a b c:ME) (Γ:Gam) (st:Q0):mChain o o' a b c Γ st=(a Γ st).bind fun x st1=>(b Γ st1).bind fun y st2=>(o st2 x y).bind fun k st3=>selB k ((c Γ st3).bind fun z st4=>o' st4 y z) (.ok (.bl false) st3):=by
  unfold mChain
  refine congrArg _ (funext fun x=>funext fun st1=>congrArg _ (funext fun y=>funext fun st2=>congrArg _ (funext fun k=>funext fun st3=>?_)))
  cases k with
  | bl b=>cases b <;> rfl
  | _=>rfl
@[simp] theorem mAnd_eq (a b:ME) (Γ:Gam) (st:Q0):mAnd a b Γ st=(a Γ st).bind fun x st1=>selB x (b Γ st1) (.ok (.bl false) st1):=by
  unfold mAnd
  refine congrArg _ (funext fun x=>funext fun st1=>?_)
  cases x with
  | bl b=>cases b <;> rfl
  | _=>rfl
@[simp] theorem mOr_eq (a b:ME) (Γ:Gam) (st:Q0):mOr a b Γ st=(a Γ st).bind fun x st1=>selB x (.ok (.bl true) st1) (b Γ st1):=by
  unfold mOr
  refine congrArg _ (funext fun x=>funext fun st1=>?_)
  cases x with
  | bl b=>cases b <;> rfl
  | _=>rfl
@[simp] theorem mNot_eq (a:ME) (Γ:Gam) (st:Q0):mNot a Γ st=(a Γ st).bind fun x st1=>(match x with | .bl k=>.ok (.bl (!k)) st1 | _=>.stuck):=rfl
@[simp] theorem mNeg_eq (a:ME) (Γ:Gam) (st:Q0):mNeg a Γ st=(a Γ st).bind fun x st1=>(match x with | .int k=>.ok (.int (-k)) st1 | _=>.stuck):=rfl
@[simp] theorem tAndM_eq (a b:MT) (Γ:Gam) (st:Q0):tAndM a b Γ st=(a Γ st).bind fun k st1=>if k=true then b Γ st1 else .ok false st1:=rfl
@[simp] theorem tOrM_eq (a b:MT) (Γ:Gam) (st:Q0):tOrM a b Γ st=(a Γ st).bind fun k st1=>if k=true then .ok true st1 else b Γ st1:=rfl
@[simp] theorem tNotM_eq (a:MT) (Γ:Gam) (st:Q0):tNotM a Γ st=(a Γ st).bind fun k st1=>.ok (!k) st1:=rfl
@[simp] theorem mIf_eq (c:MT) (a b:ME) (Γ:Gam) (st:Q0):mIf c a b Γ st=(c Γ st).bind fun k st1=>if k=true then a Γ st1 else b Γ st1:=rfl
@[simp] theorem mNil_eq (Γ:Gam) (st:Q0):Qe Γ st=.ok [] st:=rfl
@[simp] theorem mCons_eq (m:ME) (mr:ML) (Γ:Gam) (st:Q0):Q4 m mr Γ st=(m Γ st).bind fun p st1=>(mr Γ st1).bind fun ps st2=>.ok (p :: ps) st2:=rfl
@[simp] theorem mTup_eq (mr:ML) (Γ:Gam) (st:Q0):mTup mr Γ st=(mr Γ st).bind fun ps st1=>if ps.length<=lim then .ok (.tup ps) st1 else .stuck:=rfl
@[simp] theorem mLst_eq (mr:ML) (Γ:Gam) (st:Q0):mLst mr Γ st=(mr Γ st).bind fun ps st1=>if ps.length<=lim then .ok (.lst ps) st1 else .stuck:=rfl
@[simp] theorem mLstN_eq (mr:ML) (Γ:Gam) (st:Q0):mLstN mr Γ st=(mr Γ st).bind fun ps st1=>if ps.length<=lim then .ok ps st1 else .stuck:=rfl
@[simp] theorem mSl_eq (m:ME) (l h:Gam->Q0->Res (Option Int)) (Γ:Gam) (st:Q0):mSl m l h Γ st=(m Γ st).bind fun p st1=>(l Γ st1).bind fun lo st2=>(h Γ st2).bind fun hi st3=>oSl st3 p lo hi:=rfl
@[simp] theorem mNoPart_eq (Γ:Gam) (st:Q0):mNoPart Γ st=.ok none st:=rfl
@[simp] theorem mPart_eq (m:ME) (Γ:Gam) (st:Q0):mPart m Γ st=(m Γ st).bind fun p st1=>(match p with | .int i=>.ok (some i) st1 | _=>.stuck):=rfl
@[simp] theorem mCall_eq (o:CF) (mr:ML) (Γ:Gam) (st:Q0):mCall o mr Γ st=(mr Γ st).bind fun ps st1=>o st1 ps:=rfl
@[simp] theorem mIsI_eq (T:String) (m:ME) (Γ:Gam) (st:Q0):mIsI T m Γ st=(m Γ st).bind fun p st1=>if frzd st1 p=true then .stuck else .ok (.bl (isI T (dpv st1 p))) st1:=rfl
@[simp] theorem frzd_non (st:Q0):frzd st .non=false:=rfl
@[simp] theorem frzd_bl (st:Q0) (b:Bool):frzd st (.bl b)=false:=rfl
@[simp] theorem frzd_int (st:Q0) (b:Int):frzd st (.int b)=false:=rfl
@[simp] theorem frzd_str (st:Q0) (b:Str):frzd st (.str b)=false:=rfl
@[simp] theorem frzd_tup (st:Q0) (b:List PV):frzd st (.tup b)=false:=rfl
@[simp] theorem frzd_lst (st:Q0) (b:List PV):frzd st (.lst b)=false:=rfl
@[simp] theorem frzd_fro (st:Q0) (b:List PV):frzd st (.fro b)=false:=rfl
@[simp] theorem frzd_dic (st:Q0):frzd st .dic=false:=rfl
@[simp] theorem frzd_ref (st:Q0) (i:Nat):frzd st (.ref i)=(match st[i]? with | some (.frd _)=>true | _=>false):=rfl
@[simp] theorem dpv_non (st:Q0):dpv st .non=.non:=rfl
@[simp] theorem dpv_bl (st:Q0) (b:Bool):dpv st (.bl b)=(.bl b):=rfl
@[simp] theorem dpv_int (st:Q0) (b:Int):dpv st (.int b)=(.int b):=rfl
@[simp] theorem dpv_str (st:Q0) (b:Str):dpv st (.str b)=(.str b):=rfl
@[simp] theorem dpv_tup (st:Q0) (b:List PV):dpv st (.tup b)=(.tup b):=rfl
@[simp] theorem dpv_lst (st:Q0) (b:List PV):dpv st (.lst b)=(.lst b):=rfl
@[simp] theorem dpv_fro (st:Q0) (b:List PV):dpv st (.fro b)=(.fro b):=rfl
@[simp] theorem dpv_dc (st:Q0):dpv st .dic=.dic:=rfl
@[simp] theorem dpv_r (st:Q0) (i:Nat):dpv st (.ref i)=(match st[i]? with | some (.dic _)=>.dic | some (.dtp _)=>.dic | _=>.ref i):=rfl
@[simp] theorem mVal_eq (m:ML) (Γ:Gam) (st:Q0):mVal m Γ st=(m Γ st).bind fun ps st1=>.ok (.lst ps) st1:=rfl
@[simp] theorem mTrk_eq (m:ML) (Γ:Gam) (st:Q0):mTrk m Γ st=(m Γ st).bind fun ps st1=>.ok (.ref st1.length) (st1 ++ [.lst ps]):=rfl
@[simp] theorem mCompN_eq (cap:List (Option Nat)) (ga:GA) (mi:MI) (mt:MT) (me:ME) (Γ:Gam) (st:Q0):mCompN cap ga mi mt me Γ st=(mi Γ st).bind fun iw st1=>noX (compG ga mt me iw.2 (capG cap Γ) iw.1 st1):=rfl
@[simp] theorem mTrue_eq (Γ:Gam) (st:Q0):mTrue Γ st=.ok true st:=rfl
@[simp] theorem mCallF_eq (n:Nat) (F:FN) (mr:ML) (Γ:Gam) (st:Q0):mCallF n F mr Γ st=(mr Γ st).bind fun ps st1=>if ps.length=n then F ps st1 else .stuck:=rfl
@[simp] theorem mNext_eq (Γ:Gam) (st:Q0):mNext Γ st=.nx Γ st:=rfl
@[simp] theorem mSeqS_eq (a b:MS) (Γ:Gam) (st:Q0):mSeqS a b Γ st=(match a Γ st with | .nx Γ1 st1=>b Γ1 st1 | r=>r):=rfl
@[simp] theorem mExpr_eq (m:ME) (Γ:Gam) (st:Q0):mExpr m Γ st=(m Γ st).sbind fun _ st1=>.nx Γ st1:=rfl
@[simp] theorem mRet_eq (m:ME) (Γ:Gam) (st:Q0):mRet m Γ st=(m Γ st).sbind fun p st1=>.rt p st1:=rfl
@[simp] theorem mRetN_eq (Γ:Gam) (st:Q0):mRetN Γ st=.rt .non st:=rfl
@[simp] theorem mSet_eq (i:Nat) (m:ME) (Γ:Gam) (st:Q0):mSet i m Γ st=(m Γ st).sbind fun p st1=>.nx (Γ.set i (some p)) st1:=rfl
@[simp] theorem mIfS_eq (c:MT) (a b:MS) (Γ:Gam) (st:Q0):mIfS c a b Γ st=(c Γ st).sbind fun k st1=>if k=true then a Γ st1 else b Γ st1:=rfl
@[simp] theorem mFor_eq (ga:GA) (mi:MI) (b:MS) (Γ:Gam) (st:Q0):mFor ga mi b Γ st=(mi Γ st).sbind fun iw st1=>forG ga b iw.2 iw.1 Γ st1:=rfl
@[simp] theorem mSeq_eq (m:ME) (Γ:Gam) (st:Q0):mSeq m Γ st=(m Γ st).bind fun p st1=>(match srcOf st1 p with | some (xs,w)=>if xs.length<=lim then .ok (xs,w) st1 else .stuck | none=>.stuck):=rfl
@[simp] theorem mRange1_eq (mr:ML) (Γ:Gam) (st:Q0):mRange1 mr Γ st=(mr Γ st).bind fun ps st1=>(match ps with | [.int j]=>if -(lim:Int)<=j/\j<=lim then .ok (rangeI 0 j.toNat,[]) st1 else .stuck | _=>.stuck):=rfl
@[simp] theorem mRange2_eq (mr:ML) (Γ:Gam) (st:Q0):mRange2 mr Γ st=(mr Γ st).bind fun ps st1=>(match ps with | [.int i,.int j]=>if -(lim:Int)<=i/\i<=lim/\-(lim:Int)<=j/\j<=lim then .ok (rangeI i (j - i).toNat,[]) st1 else .stuck | _=>.stuck):=rfl
@[simp] theorem mZip_eq (mr:ML) (Γ:Gam) (st:Q0):mZip mr Γ st=(mr Γ st).bind fun ps st1=>(match ps with | [p,q]=>(match srcOf st1 p,srcOf st1 q with | some (xs,w),some (ys,w')=>if xs.length<=lim then .ok (zipT xs ys,w ++ w') st1 else .stuck | _,_=>.stuck) | _=>.stuck):=rfl
@[simp] theorem mEnum_eq (mr:ML) (Γ:Gam) (st:Q0):mEnum mr Γ st=(mr Γ st).bind fun ps st1=>(match ps with | [p]=>(match srcOf st1 p with | some (xs,w)=>if xs.length<=lim then .ok (enumT 0 xs,w) st1 else .stuck | none=>.stuck) | _=>.stuck):=rfl
@[simp] theorem mBM_eq (f:MF) (mo:ME) (mr:ML) (Γ:Gam) (st:Q0):mBM f mo mr Γ st=(mo Γ st).bind fun p st1=>(match listOf st1 p with | some _=>(mr Γ st1).bind fun ps st2=>f st2 p ps | none=>.stuck):=rfl
@[simp] theorem mAsg_eq (ga:GA) (m:ME) (Γ:Gam) (st:Q0):mAsg ga m Γ st=(m Γ st).sbind fun p st1=>(match ga p Γ with | some Γ1=>.nx Γ1 st1 | none=>.stuck):=rfl
@[simp] theorem mSetIx_eq (mo mi m:ME) (Γ:Gam) (st:Q0):mSetIx mo mi m Γ st=(m Γ st).sbind fun p st1=>(mo Γ st1).sbind fun o st2=>(mi Γ st2).sbind fun i st3=>(match setIx st3 o i p with | some st4=>.nx Γ st4 | none=>.stuck):=rfl
@[simp] theorem mRaise_eq (x:Str) (m:ME) (Γ:Gam) (st:Q0):mRaise x m Γ st=(m Γ st).sbind fun _ st1=>.exc ⟨x,none⟩ st1:=rfl
@[simp] theorem gaName_eq (i:Nat) (p:PV) (Γ:Gam):gaName i p Γ=some (Γ.set i (some p)):=rfl
@[simp] theorem gaNil_eq (Γ:Gam):gaNil [] Γ=some Γ:=rfl
@[simp] theorem gaCons_eq (g:GA) (gs:GAs) (p:PV) (r:List PV) (Γ:Gam):gaCons g gs (p :: r) Γ=(g p Γ).bind (gs r):=rfl
@[simp] theorem gaTup_eq (gs:GAs) (ps:List PV) (Γ:Gam):gaTup gs (.tup ps) Γ=gs ps Γ:=rfl
@[simp] theorem noX_ok {α:Type} (a:α) (st:Q0):noX (Res.ok a st)=.ok a st:=rfl
@[simp] theorem noX_stuck {α:Type}:noX (Res.stuck:Res α)=.stuck:=rfl
@[simp] theorem okO_some {α:Type} (st:Q0) (a:α):okO st (some a)=.ok a st:=rfl
@[simp] theorem okO_none {α:Type} (st:Q0):okO st (none:Option α)=.stuck:=rfl
@[simp] theorem oI_eq (g:Int->Int->PV) (st:Q0) (a b:Int):oI g st (.int a) (.int b)=.ok (g a b) st:=rfl
@[simp] theorem oAdd_int (st:Q0) (a b:Int):oAdd st (.int a) (.int b)=.ok (.int (a + b)) st:=rfl
@[simp] theorem oAdd_tup (st:Q0) (a b:List PV):oAdd st (.tup a) (.tup b)=if a.length + b.length<=lim then .ok (.tup (a ++ b)) st else .stuck:=rfl
@[simp] theorem oMul_int (st:Q0) (a b:Int):oMul st (.int a) (.int b)=if (-(2 ^ 64) < a/\a < 2 ^ 64)\/(-(2 ^ 64) < b/\b < 2 ^ 64) then .ok (.int (a * b)) st else .stuck:=rfl
@[simp] theorem oMul_tup (st:Q0) (xs:List PV) (b:Int):oMul st (.tup xs) (.int b)=if xs ≠ []/\1<=b/\xs.length * b.toNat<=4096 then .ok (.tup (List.replicate b.toNat xs).flatten) st else .stuck:=rfl
@[simp] theorem oMod_int (st:Q0) (a b:Int):oMod st (.int a) (.int b)=if 0 < b then .ok (.int (a % b)) st else .stuck:=rfl
@[simp] theorem oDiv_int (st:Q0) (a b:Int):oDiv st (.int a) (.int b)=if 0 < b/\b < 1073741824 then .ok (.int (a / b)) st else .stuck:=rfl
@[simp] theorem oPow_int (st:Q0) (a b:Int):oPow st (.int a) (.int b)=if 0<=b/\b<=1000000/\a.natAbs < 2 ^ 64 then .ok (.int (a ^ b.toNat)) st else .stuck:=rfl
@[simp] theorem oLt_int (st:Q0) (a b:Int):oLt st (.int a) (.int b)=.ok (.bl (decide (a < b))) st:=rfl
@[simp] theorem oEq_int (st:Q0) (a b:Int):oEq st (.int a) (.int b)=.ok (.bl (a == b)) st:=rfl
@[simp] theorem oNe_int (st:Q0) (a b:Int):oNe st (.int a) (.int b)=.ok (.bl (!(a == b))) st:=rfl
@[simp] theorem oEq_bl (st:Q0) (a b:Bool):oEq st (.bl a) (.bl b)=.ok (.bl (a == b)) st:=rfl
@[simp] theorem oNe_bl (st:Q0) (a b:Bool):oNe st (.bl a) (.bl b)=.ok (.bl (!(a == b))) st:=rfl
@[simp] theorem oEq_str (st:Q0) (a b:Str):oEq st (.str a) (.str b)=.ok (.bl (a == b)) st:=rfl
@[simp] theorem oNe_str (st:Q0) (a b:Str):oNe st (.str a) (.str b)=.ok (.bl (!(a == b))) st:=rfl
@[simp] theorem oIs_non (st:Q0) (p:PV):oIs st p .non=.ok (.bl (isNon p)) st:=rfl
@[simp] theorem oIs_bl (st:Q0) (a b:Bool):oIs st (.bl a) (.bl b)=.ok (.bl (a == b)) st:=rfl
@[simp] theorem oIsNot_non (st:Q0) (p:PV):oIsNot st p .non=.ok (.bl (!isNon p)) st:=rfl
@[simp] theorem oIsNot_bl (st:Q0) (a b:Bool):oIsNot st (.bl a) (.bl b)=.ok (.bl (a != b)) st:=rfl
@[simp] theorem lstOf_lst (st:Q0) (xs:List PV):lstOf st (.lst xs)=some xs:=rfl
@[simp] theorem listOf_lst (st:Q0) (xs:List PV):listOf st (.lst xs)=some xs:=rfl
@[simp] theorem listOf_fro (st:Q0) (xs:List PV):listOf st (.fro xs)=some xs:=rfl
@[simp] theorem seqOf_lst (st:Q0) (xs:List PV):seqOf st (.lst xs)=some xs:=rfl
@[simp] theorem seqOf_fro (st:Q0) (xs:List PV):seqOf st (.fro xs)=some xs:=rfl
@[simp] theorem seqOf_tup (st:Q0) (xs:List PV):seqOf st (.tup xs)=some xs:=rfl
@[simp] theorem srcOf_lst (st:Q0) (xs:List PV):srcOf st (.lst xs)=some (xs,[]):=rfl
@[simp] theorem srcOf_fro (st:Q0) (xs:List PV):srcOf st (.fro xs)=some (xs,[]):=rfl
@[simp] theorem srcOf_tup (st:Q0) (xs:List PV):srcOf st (.tup xs)=some (xs,[]):=rfl
theorem lstOf_ref {st:Q0} {i:Nat} {xs:List PV} (h:st[i]?=some (.lst xs)):lstOf st (.ref i)=some xs:=by simp only [lstOf,h]
theorem listOf_ref {st:Q0} {i:Nat} {xs:List PV} (h:st[i]?=some (.lst xs)):listOf st (.ref i)=some xs:=lstOf_ref h
theorem srcOf_ref {st:Q0} {i:Nat} {xs:List PV} (h:st[i]?=some (.lst xs)):srcOf st (.ref i)=some (xs,[(i,.lst xs)]):=by simp only [srcOf,h]
@[simp] theorem oIx_tup (st:Q0) (xs:List PV) (i:Int):oIx st (.tup xs) (.int i)=okO st (atI xs i):=rfl
@[simp] theorem oIx_lst (st:Q0) (xs:List PV) (i:Int):oIx st (.lst xs) (.int i)=okO st (atI xs i):=rfl
@[simp] theorem oIx_fro (st:Q0) (xs:List PV) (i:Int):oIx st (.fro xs) (.int i)=okO st (atI xs i):=rfl
@[simp] theorem oSl_tup (st:Q0) (xs:List PV) (l h:Option Int):oSl st (.tup xs) l h=.ok (.tup (cut xs l h)) st:=rfl
@[simp] theorem oSl_lst (st:Q0) (xs:List PV) (l h:Option Int):oSl st (.lst xs) l h=.ok (.lst (cut xs l h)) st:=rfl
@[simp] theorem oSl_fro (st:Q0) (xs:List PV) (l h:Option Int):oSl st (.fro xs) l h=.ok (.lst (cut xs l h)) st:=rfl
@[simp] theorem cLen_tup (st:Q0) (xs:List PV):cLen st [.tup xs]=.ok (.int xs.length) st:=rfl
@[simp] theorem cLen_lst (st:Q0) (xs:List PV):cLen st [.lst xs]=.ok (.int xs.length) st:=rfl
@[simp] theorem cLen_fro (st:Q0) (xs:List PV):cLen st [.fro xs]=.ok (.int xs.length) st:=rfl
@[simp] theorem cList_tup (st:Q0) (xs:List PV):cList st [.tup xs]=.ok (.lst xs) st:=rfl
@[simp] theorem cList_lst (st:Q0) (xs:List PV):cList st [.lst xs]=.ok (.lst xs) st:=rfl
@[simp] theorem cList_fro (st:Q0) (xs:List PV):cList st [.fro xs]=.ok (.lst xs) st:=rfl
@[simp] theorem cTuple_tup (st:Q0) (xs:List PV):cTuple st [.tup xs]=.ok (.tup xs) st:=rfl
@[simp] theorem cTuple_lst (st:Q0) (xs:List PV):cTuple st [.lst xs]=.ok (.tup xs) st:=rfl
@[simp] theorem cBls_lst (g:List Bool->PV) (st:Q0) (bs:List Bool):cBls g st [.lst (bs.map .bl)]=.ok (g bs) st:=by
  simp only [cBls,seqOf_lst,Option.bind_some,bls_map]
@[simp] theorem cInts_lst (g:List Int->Option PV) (st:Q0) (ns:List Int):cInts g st [.lst (ns.map .int)]=okO st (g ns):=by
  simp only [cInts,seqOf_lst,Option.bind_some,ints_map]
@[simp] theorem cInts_tup (g:List Int->Option PV) (st:Q0) (ns:List Int):cInts g st [.tup (ns.map .int)]=okO st (g ns):=by
  simp only [cInts,seqOf_tup,Option.bind_some,ints_map]
@[simp] theorem cMax_int (st:Q0) (a b:Int):cMax st [.int a,.int b]=.ok (.int (if b > a then b else a)) st:=rfl
@[simp] theorem cMin_int (st:Q0) (a b:Int):cMin st [.int a,.int b]=.ok (.int (if b < a then b else a)) st:=rfl
@[simp] theorem wOk_nil' (st:Q0):wOk [] st=True:=by simp [wOk]
@[simp] theorem fin_bl (st:Q0) (b:Bool):fin st (.bl b) st=.ok (.bl b) st:=by simp [fin,fz]
@[simp] theorem fin_int (st:Q0) (b:Int):fin st (.int b) st=.ok (.int b) st:=by simp [fin,fz]
@[simp] theorem fin_non (st:Q0):fin st .non st=.ok .non st:=by simp [fin,fz]
@[simp] theorem fin_str (st:Q0) (b:Str):fin st (.str b) st=.ok (.str b) st:=by simp [fin,fz]
theorem lim_eq:lim=1000000:=rfl
theorem compG_on {α:Type} (g f:α->PV) {ga:GA} {me:ME} {w:Wt} {Γ0:Gam} {st:Q0} (hw:wOk w st) {ys:List α} (h:∀ y ∈ ys,∃ Γ1,ga (g y) Γ0=some Γ1/\me Γ1 st=.ok (f y) st):compG ga mTrue me w Γ0 (ys.map g) st=.ok (ys.map f) st:=by
  induction ys with
  | nil=>simp [compG,hw]
  | cons y ys ih=>
    obtain ⟨Γ1,h1,h2⟩:=h y List.mem_cons_self
    have ih:=ih fun z hz=>h z (List.mem_cons_of_mem _ hz)
    rw [List.map_cons,compG,if_pos hw,h1]
    simp [h2,ih]
theorem compG_onF {α:Type} (g f:α->PV) (t:α->Bool) {ga:GA} {mt:MT} {me:ME} {w:Wt} {Γ0:Gam} {st:Q0} (hw:wOk w st) {ys:List α} (h:∀ y ∈ ys,∃ Γ1,ga (g y) Γ0=some Γ1/\mt Γ1 st=.ok (t y) st/\(t y=true->me Γ1 st=.ok (f y) st)):compG ga mt me w Γ0 (ys.map g) st=.ok ((ys.filter t).map f) st:=by
  induction ys with
  | nil=>simp [compG,hw]
  | cons y ys ih=>
    obtain ⟨Γ1,h1,h2,h3⟩:=h y List.mem_cons_self
    have ih:=ih fun z hz=>h z (List.mem_cons_of_mem _ hz)
    rw [List.map_cons,compG,if_pos hw,h1]
    simp only [h2,bind_ok,ih]
    cases tx:t y with
    | true=>simp [h3 tx,tx,ih]
    | false=>simp [tx]
@[simp] theorem cBls_map {α:Type} (g:List Bool->PV) (st:Q0) (ys:List α) (b:α->Bool):cBls g st [.lst (ys.map fun y=>.bl (b y))]=.ok (g (ys.map b)) st:=by
  rw [show (ys.map fun y=>PV.bl (b y))=(ys.map b).map .bl by rw [List.map_map]; rfl,cBls_lst]
@[simp] theorem cInts_map {α:Type} (g:List Int->Option PV) (st:Q0) (ys:List α) (b:α->Int):cInts g st [.lst (ys.map fun y=>.int (b y))]=okO st (g (ys.map b)):=by
  rw [show (ys.map fun y=>PV.int (b y))=(ys.map b).map .int by rw [List.map_map]; rfl,cInts_lst]
theorem forG_inv {α:Type} (g:α->PV) {xs:List α} (I:Nat->Gam->Q0->Prop) {ga:GA} {body:MS} {w:Wt} (hw:∀ i Γ st,I i Γ st->wOk w st)
    (h:∀ (i:Nat) x Γ st,xs[i]?=some x->I i Γ st->∃ Γ1,ga (g x) Γ=some Γ1/\∃ Γ2 st2,body Γ1 st=.nx Γ2 st2/\I (i + 1) Γ2 st2) {Γ:Gam} {st:Q0} (h0:I 0 Γ st):∃ Γ' st',forG ga body w (xs.map g) Γ st=.nx Γ' st'/\I xs.length Γ' st':=by
  induction xs generalizing I Γ st with
  | nil=>exact ⟨Γ,st,by simp [forG,hw 0 Γ st h0],h0⟩
  | cons x xs ih=>
    obtain ⟨Γ1,h1,Γ2,st2,e2,i2⟩:=h 0 x Γ st rfl h0
    obtain ⟨Γ',st',e3,i3⟩:=ih (fun i=>I (i + 1)) (fun i Γ st z=>hw (i + 1) Γ st z) (fun i y Γ st hy z=>h (i + 1) y Γ st (by simpa using hy) z) i2
    refine ⟨Γ',st',?_,i3⟩
    rw [List.map_cons,forG,if_pos (hw 0 Γ st h0),h1]
    simp only [e2]
    exact e3
theorem forG_invL {α:Type} (g:α->PV) {xs:List α} (I:List α->Gam->Q0->Prop) {ga:GA} {body:MS} {w:Wt} (hw:∀ pre Γ st,I pre Γ st->wOk w st)
    (h:∀ pre x post Γ st,xs=pre ++ x :: post->I pre Γ st->∃ Γ1,ga (g x) Γ=some Γ1/\∃ Γ2 st2,body Γ1 st=.nx Γ2 st2/\I (pre ++ [x]) Γ2 st2) {Γ:Gam} {st:Q0} (h0:I [] Γ st):∃ Γ' st',forG ga body w (xs.map g) Γ st=.nx Γ' st'/\I xs Γ' st':=by
  have key:∀ (post pre:List α) (Γ:Gam) (st:Q0),xs=pre ++ post->I pre Γ st->∃ Γ' st',forG ga body w (post.map g) Γ st=.nx Γ' st'/\I xs Γ' st':=by
    intro post
    induction post with
    | nil=>intro pre Γ st e i; exact ⟨Γ,st,by simp [forG,hw pre Γ st i],by rw [e,List.append_nil]; exact i⟩
    | cons x post ih=>
      intro pre Γ st e i
      obtain ⟨Γ1,h1,Γ2,st2,e2,i2⟩:=h pre x post Γ st e i
      obtain ⟨Γ',st',e3,i3⟩:=ih (pre ++ [x]) Γ2 st2 (by rw [e]; simp) i2
      refine ⟨Γ',st',?_,i3⟩
      rw [List.map_cons,forG,if_pos (hw pre Γ st i),h1]
      simp only [e2]
      exact e3
  exact key xs [] Γ st rfl h0
theorem zipT_map {α β:Type} (f:α->PV) (g:β->PV) (xs:List α) (ys:List β):zipT (xs.map f) (ys.map g)=(xs.zip ys).map fun z=>.tup [f z.1,g z.2]:=by
  rw [zipT_eq,List.zip_map,List.map_map]; rfl
theorem atI_map {α:Type} (f:α->PV) (xs:List α) (i:Int):atI (xs.map f) i=(atI xs i).map f:=by
  unfold atI
  rw [List.length_map]
  cases ixN xs.length i with
  | none=>rfl
  | some j=>simp [List.getElem?_map]
theorem atI_get {α:Type} {xs:List α} {i:Nat} {x:α} (h:xs[i]?=some x):atI xs (i:Int)=some x:=by
  have hl:=(List.getElem?_eq_some_iff.mp h).1
  unfold atI ixN
  rw [if_pos (by omega),if_pos (by omega)]
  simpa using h
theorem cut_map {α:Type} (f:α->PV) (xs:List α) (l h:Option Int):cut (xs.map f) l h=(cut xs l h).map f:=by
  unfold cut
  rw [List.length_map,<- List.map_drop,<- List.map_take]
theorem rangeI0 (n:Nat):rangeI 0 n=(List.range n).map fun (k:Nat)=>PV.int (k:Int):=by
  unfold rangeI
  refine List.map_congr_left fun k _=>?_
  rw [Int.zero_add]
@[simp] theorem tr_get {α:Type} (st l:List α) (c:α):(st ++ c :: l)[st.length]?=some c:=by
  rw [List.getElem?_append_right (Nat.le_refl _),Nat.sub_self]; rfl
@[simp] theorem tr_get1 {α:Type} (st l:List α) (c d:α):(st ++ c :: d :: l)[st.length + 1]?=some d:=by
  rw [List.getElem?_append_right (by omega)]
  rw [show st.length + 1 - st.length=1 by omega]; rfl
@[simp] theorem tr_set {α:Type} (st l:List α) (c d:α):(st ++ c :: l).set st.length d=st ++ d :: l:=by
  rw [List.set_append_right _ _ (Nat.le_refl _),Nat.sub_self]; rfl
@[simp] theorem tr_set1 {α:Type} (st l:List α) (c c' d:α):(st ++ c :: c' :: l).set (st.length + 1) d=st ++ c :: d :: l:=by
  rw [List.set_append_right _ _ (by omega),show st.length + 1 - st.length=1 by omega]; rfl
@[simp] theorem chg_ref (st:Q0) (i:Nat) (g:List PV->Option (PV × List PV)):chg st (.ref i) g=(match st[i]? with | some (.lst xs)=>(match g xs with | some (r,ys)=>.ok r (st.set i (.lst ys)) | none=>.stuck) | _=>.stuck):=rfl
@[simp] theorem lstOf_r (st:Q0) (i:Nat):lstOf st (.ref i)=(match st[i]? with | some (.lst xs)=>some xs | _=>none):=rfl
@[simp] theorem listOf_r (st:Q0) (i:Nat):listOf st (.ref i)=(match st[i]? with | some (.lst xs)=>some xs | _=>none):=rfl
@[simp] theorem seqOf_r (st:Q0) (i:Nat):seqOf st (.ref i)=(match st[i]? with | some (.lst xs)=>some xs | _=>none):=rfl
@[simp] theorem srcOf_r (st:Q0) (i:Nat):srcOf st (.ref i)=(match st[i]? with | some (.lst xs)=>some (xs,[(i,.lst xs)]) | _=>none):=rfl
@[simp] theorem mtAppend_eq (st:Q0) (p y:PV):mtAppend st p [y]=chg st p fun xs=>if xs.length < lim then some (.non,xs ++ [y]) else none:=rfl
@[simp] theorem cTuple_r (st:Q0) (i:Nat):cTuple st [.ref i]=(match st[i]? with | some (.lst xs)=>.ok (.tup xs) st | _=>.stuck):=by
  unfold cTuple; simp only [seqOf_r]
  cases st[i]? with
  | none=>rfl
  | some c=>cases c <;> rfl
@[simp] theorem cList_r (st:Q0) (i:Nat):cList st [.ref i]=(match st[i]? with | some (.lst xs)=>.ok (.lst xs) st | _=>.stuck):=by
  unfold cList; simp only [seqOf_r]
  cases st[i]? with
  | none=>rfl
  | some c=>cases c <;> rfl
@[simp] theorem cLen_r (st:Q0) (i:Nat):cLen st [.ref i]=(match st[i]? with | some (.lst xs)=>.ok (.int xs.length) st | _=>.stuck):=by
  unfold cLen; simp only [seqOf_r]
  cases st[i]? with
  | none=>rfl
  | some c=>cases c <;> rfl
@[simp] theorem oIx_r (st:Q0) (i:Nat) (j:Int):oIx st (.ref i) (.int j)=(match st[i]? with | some (.lst xs)=>okO st (atI xs j) | _=>.stuck):=by
  unfold oIx; simp only [seqOf_r]
  cases st[i]? with
  | none=>rfl
  | some c=>cases c <;> rfl
@[simp] theorem setIx_r (st:Q0) (k:Nat) (j:Int) (p:PV):setIx st (.ref k) (.int j) p=(match st[k]? with | some (.lst xs)=>(ixN xs.length j).map fun n=>st.set k (.lst (xs.set n p)) | _=>none):=rfl
theorem cut_front {α:Type} (xs:List α) (k:Nat):cut xs none (some (k:Int))=xs.take k:=by
  unfold cut
  rw [HT.sIx_none,HT.sIx_nat,List.drop_zero,Nat.sub_zero]
  rcases Nat.le_total k xs.length with h | h
  · rw [Nat.min_eq_left h]
  · rw [Nat.min_eq_right h,List.take_length,List.take_of_length_le h]
theorem cut_back {α:Type} (xs:List α) (k:Nat):cut xs (some (k:Int)) none=xs.drop k:=by
  unfold cut
  rw [HT.sIx_none,HT.sIx_nat]
  rcases Nat.le_total k xs.length with h | h
  · rw [Nat.min_eq_left h,List.take_of_length_le (by rw [List.length_drop]; omega)]
  · rw [Nat.min_eq_right h,List.drop_length,List.drop_of_length_le h]; simp
end Sm
namespace Sm
open PySem PySem.Spec L2
theorem getD_some {α:Type} {l:List α} {j:Nat} (h:j < l.length) (d:α):l[j]?=some (l.getD j d):=by
  rw [List.getD,List.getElem?_eq_getElem h]; rfl
def ListAt (st:Q0) (V:PV) (xs:List PV):Prop:=V=.lst xs\/V=.fro xs\/∃ i,V=.ref i/\st[i]?=some (.lst xs)
theorem ListAt.ix {st:Q0} {V:PV} {xs:List PV} (h:ListAt st V xs) (j:Int):oIx st V (.int j)=okO st (atI xs j):=by
  rcases h with rfl | rfl | ⟨i,rfl,e⟩
  · rfl
  · rfl
  · rw [oIx_r,e]
@[simp] theorem mListN_eq (ma:ME) (Γ:Gam) (st:Q0):mListN ma Γ st=(ma Γ st).bind fun p st1=>match seqOf st1 p with | some xs=>.ok xs st1 | none=>.stuck:=rfl
@[simp] theorem mAddN_eq (ma mb:ME) (Γ:Gam) (st:Q0):mAddN ma mb Γ st=(ma Γ st).bind fun x st1=>(mb Γ st1).bind fun y st2=>oAddN st2 x y:=rfl
@[simp] theorem mRepN_eq (ma mb:ME) (Γ:Gam) (st:Q0):mRepN ma mb Γ st=(ma Γ st).bind fun x st1=>(mb Γ st1).bind fun y st2=>oRepN st2 x y:=rfl
end Sm
namespace Sm
open PySem PySem.Spec L2
section
variable {X:Cx} {E:XK} {a b:Expr} {ma mb:ME} {pos:Pos}
def mRevN (ma mb:ME):ML:=fun Γ st=>(ma Γ st).bind fun p st1=>(mb Γ st1).bind fun q st2=>match q,listOf st2 p with
  | .int i,some xs=>if i=-1 then .ok xs.reverse st2 else .stuck
  | _,_=>.stuck
@[simp] theorem mRevN_eq (ma mb:ME) (Γ:Gam) (st:Q0):mRevN ma mb Γ st=(ma Γ st).bind fun p st1=>(mb Γ st1).bind fun q st2=>match q,listOf st2 p with
  | .int i,some xs=>if i=-1 then .ok xs.reverse st2 else .stuck
  | _,_=>.stuck:=rfl
def mLRN (ma:ME):ML:=fun Γ st=>(ma Γ st).bind fun p st1=>match p with
  | .int i=>if 0<=i/\i<=1000000 then .ok ((List.range i.toNat).map fun (k:Nat)=>.int (k:Int)) st1 else .stuck
  | _=>.stuck
theorem repL_range {H:Hp} {ρ:Tk} (ks:List Nat):RepL H ρ (ks.map fun (k:Nat)=>.int (k:Int)) (ks.map fun (k:Nat)=>V.int (k:Int)):=by
  induction ks with
  | nil=>exact RepL.nil
  | cons k ks ih=>exact RepL.cons rfl ih
@[simp] theorem mLRN_eq (ma:ME) (Γ:Gam) (st:Q0):mLRN ma Γ st=(ma Γ st).bind fun p st1=>match p with
  | .int i=>if 0<=i/\i<=1000000 then .ok ((List.range i.toNat).map fun (k:Nat)=>.int (k:Int)) st1 else .stuck
  | _=>.stuck:=rfl
def mLenSet (ma:ME):ME:=fun Γ st=>(ma Γ st).bind fun p st1=>match (listOf st1 p).bind intsOf with
  | some ns=>if ns.length<=4000 then .ok (.int (metN ns).length) st1 else .stuck
  | none=>.stuck
@[simp] theorem mLenSet_eq (ma:ME) (Γ:Gam) (st:Q0):mLenSet ma Γ st=(ma Γ st).bind fun p st1=>match (listOf st1 p).bind intsOf with
  | some ns=>if ns.length<=4000 then .ok (.int (metN ns).length) st1 else .stuck
  | none=>.stuck:=rfl
end
end Sm
namespace Sm
open PySem PySem.Spec L2
def callK (body:MS) (nl:Nat):FN:=fun ps st=>match body (ps.map some ++ List.replicate (nl - ps.length) none) st with
  | .rt v st'=>.ok v st'
  | .nx _ st'=>.ok .non st'
  | .exc x st'=>.exc x st'
  | _=>.stuck
section
variable {P:Program} {w:World} {K:PySem.W.Frag} {mg:Str->Option Value} {base:Heap}
theorem fun_okK {x qual:Str} {st:Stmt} {f:Addr} {fd:FuncData} {N ps:List Str} {k:Nat} {m:MS} (F:Fun K x qual st f fd) (S:FnScope N ps (Q7 st))
    (hb:∀ (cdv:Value) (A:Around) (outer:List PySem.Env) (s:Shared) (H:Hp) (E:XK),Room k (A.deeper (PyProof.Rows.envOfC qual (Q7 st) s.heap.objs.size f cdv))->SimB (cxD P w K mg base N qual (Q7 st) f cdv A outer s H E) E (defBody st) m) :
    FnOk P w K mg base (CXD P w) (k + 1) f fd ps (spF mg ps.length (callK m N.length)):=by
  refine Fun.okD F S (fun vs H Q E h=>h.1) fun cdv A outer s H vs Q E hr hsp=>⟨_,pss_w,?_⟩
  obtain ⟨hl,ρ,st0,pvs,R,rl,hA⟩:=hsp
  refine (hb cdv A outer s H E hr).run _ (L2.start N vs) H ρ st0 _ R (start_env rl) ?_
  unfold callK at hA
  cases rr:m (pvs.map some ++ List.replicate (N.length - pvs.length) none) st0 with
  | rt v st1=>rw [rr] at hA; exact fun v H' ρ' x R' r=>hA H' ρ' x R' v r
  | nx Γ st1=>rw [rr] at hA; exact fun σ' H' ρ' x' R' G'=>hA H' ρ' x' R' .non rfl
  | bk Γ st1=>rw [rr] at hA; exact hA.elim
  | ct Γ st1=>rw [rr] at hA; exact hA.elim
  | stuck=>rw [rr] at hA; exact hA.elim
  | exc y st1=>rw [rr] at hA; exact hA
end
theorem fun_ok2K {P:Program} {w:World} {K:PySem.W.Frag} {mg:Str->Option Value} {base:Heap} {x qual:Str} {st:Stmt} {f:Addr} {fd:FuncData} {N ps:List Str} {k n nl:Nat} {m:MS} {FF:FN} (F:Fun K x qual st f fd) (S:FnScope N ps (Q7 st)) (hn:ps.length=n) (hnl:N.length=nl) (hF:FF=callK m nl)
    (hb:∀ (cdv:Value) (A:Around) (outer:List PySem.Env) (s:Shared) (H:Hp) (E:XK),Room k (A.deeper (PyProof.Rows.envOfC qual (Q7 st) s.heap.objs.size f cdv))->SimB (cxD P w K mg base N qual (Q7 st) f cdv A outer s H E) E (defBody st) m) :
    FnOk P w K mg base (CXD P w) (k + 1) f fd ps (spF mg n FF):=by
  subst hn; subst hnl; subst hF
  exact fun_okK F S hb
end Sm
namespace Sm
open PySem PySem.Spec PyProof.Rows L2
section
variable {X:Cx} {E:XK} {pos:Pos} {a b:Expr} {ma mb:ME}
def mTR (ma:ME):ME:=fun Γ st=>(ma Γ st).bind fun p st1=>match p with
  | .int i=>if 0<=i/\i<=1000000 then .ok (.tup ((List.range i.toNat).map fun (k:Nat)=>.int (k:Int))) st1 else .stuck
  | _=>.stuck
theorem se_trange {p p' pos':Pos} (ha:SimE X E a ma) (hc:X.calm=true) (hg:Gl X "tuple") (hm:X.mg "tuple" = none) (hg':Gl X "range") (hm':X.mg "range" = none) (he:starEach [a] X.env=(false,eval a X.env) :: starEach [] X.env:=by rfl) (hs:starEach [a] X.env=[(false,eval a X.env)]:=by rfl)
    (hs2:starEach [.Call (.Name "range" p') [a] [] pos'] X.env=[(false,eval (.Call (.Name "range" p') [a] [] pos') X.env)]:=by rfl):SimE X E (.Call (.Name "tuple" p) [.Call (.Name "range" p') [a] [] pos'] [] pos) (mTR ma):=
  ⟨fun Γ σ H ρ st Q R G hq=>WE.of (pe_tupRange hc hg hm hg' hm' L2.boot_tuple (pa_cons pe_w pa_nil he) hs hs2) (ha.use' R G hq.bind fun q st1 H1 ρ1 v e1 x1 R1 G1 r1 h1=>by
    split at h1
    · rename_i i
      split at h1
      · rename_i hi
        have ev:v=.int i:=r1
        subst ev
        exact ⟨i.toNat,by rw [Int.toNat_of_nonneg hi.1],by omega,new_tup R1 h1 (repL_range _)⟩
      · exact h1.elim
    · exact h1.elim)⟩
@[simp] theorem mTR_eq (ma:ME) (Γ:Gam) (st:Q0):mTR ma Γ st=(ma Γ st).bind fun p st1=>match p with
  | .int i=>if 0<=i/\i<=1000000 then .ok (.tup ((List.range i.toNat).map fun (k:Nat)=>.int (k:Int))) st1 else .stuck
  | _=>.stuck:=rfl
def mDic:ME:=fun _ st=>.ok .dic st
@[simp] theorem mDic_eq (Γ:Gam) (st:Q0):mDic Γ st=.ok .dic st:=rfl
def mRevT (ma mb:ME):ME:=fun Γ st=>(ma Γ st).bind fun p st1=>(mb Γ st1).bind fun q st2=>match q,p with
  | .int i,.tup xs=>if i=-1 then .ok (.tup xs.reverse) st2 else .stuck
  | _,_=>.stuck
theorem se_revT {p2:Pos} (ha:SimE X E a ma) (hb:SimE X E b mb):SimE X E (.Subscript a (.Slice none none (some b) p2) pos) (mRevT ma mb):=
  ⟨fun Γ σ H ρ st Q R G hq=>WE.of (pe_revT pe_w pe_w) (ha.use' R G hq.bind fun p st1 H1 ρ1 v e1 x1 R1 G1 r1 h1=>hb.use' R1 G1 h1.bind fun q st2 H2 ρ2 u e2 x2 R2 G2 r2 h2=>by
    split at h2
    · rename_i i xs
      split at h2
      · rename_i hi
        subst hi
        have eu:u=.int (-1):=r2
        subst eu
        obtain ⟨c,vs,rfl,hc,nc,rc⟩:=r1.ext x2
        exact ⟨rfl,c,vs,rfl,SqT.of hc,new_tup R2 h2 rc.reverse⟩
      · exact h2.elim
    · exact h2.elim)⟩
@[simp] theorem mRevT_eq (ma mb:ME) (Γ:Gam) (st:Q0):mRevT ma mb Γ st=(ma Γ st).bind fun p st1=>(mb Γ st1).bind fun q st2=>match q,p with
  | .int i,.tup xs=>if i=-1 then .ok (.tup xs.reverse) st2 else .stuck
  | _,_=>.stuck:=rfl
end
end Sm
namespace Sm
open PySem PySem.Spec L2
def mParts (m:ME):ME:=fun Γ st=>(m Γ st).bind fun p st1=>match p with
  | .str x=>if x = "make" then .ok (.int 3) st1 else if x = "lend" then .ok (.int 4) st1 else if x = "use" then .ok (.int 3) st1 else .ok .non st1
  | _=>.stuck
section
variable {X:Cx} {E:XK} {pos:Pos} {e:Expr} {m:ME}
end
section
end
def pick3 (k1 k2 k3:Str) (p1 p2 p3:PV) (st4:Q0):PV->Res PV
  | .str x=>if x=k1 then .ok p1 st4 else if x=k2 then .ok p2 st4 else if x=k3 then .ok p3 st4 else .stuck
  | _=>.stuck
def mDsp3 (k1 k2 k3:Str) (m1 m2 m3 mi:ME):ME:=fun Γ st=>(m1 Γ st).bind fun p1 st1=>(m2 Γ st1).bind fun p2 st2=>(m3 Γ st2).bind fun p3 st3=>(mi Γ st3).bind fun q st4=>pick3 k1 k2 k3 p1 p2 p3 st4 q
section
variable {X:Cx} {E:XK} {pos dpos:Pos} {e1 e2 e3 i:Expr} {m1 m2 m3 mi:ME} {k1 k2 k3:Str} {j1 j2 j3:Nat} {q1 q2 q3:Pos}
end
def mRaiseI (x name:Str) (m:ME):MS:=fun Γ st=>(m Γ st).sbind fun p st1=>.exc ⟨x,some (name,p)⟩ st1
section
variable {X:Cx} {E:XK} {pos:Pos} {e:Expr} {m:ME}
end
@[simp] theorem mParts_eq (m:ME) (Γ:Gam) (st:Q0):mParts m Γ st=(m Γ st).bind fun p st1=>(match p with
  | .str x=>if x = "make" then .ok (.int 3) st1 else if x = "lend" then .ok (.int 4) st1 else if x = "use" then .ok (.int 3) st1 else .ok .non st1
  | _=>.stuck):=rfl
@[simp] theorem mDsp3_eq (k1 k2 k3:Str) (m1 m2 m3 mi:ME) (Γ:Gam) (st:Q0):mDsp3 k1 k2 k3 m1 m2 m3 mi Γ st=(m1 Γ st).bind fun p1 st1=>(m2 Γ st1).bind fun p2 st2=>(m3 Γ st2).bind fun p3 st3=>(mi Γ st3).bind fun q st4=>pick3 k1 k2 k3 p1 p2 p3 st4 q:=rfl
@[simp] theorem pick3_str (k1 k2 k3:Str) (p1 p2 p3:PV) (st4:Q0) (x:Str):pick3 k1 k2 k3 p1 p2 p3 st4 (.str x)=if x=k1 then .ok p1 st4 else if x=k2 then .ok p2 st4 else if x=k3 then .ok p3 st4 else .stuck:=rfl
@[simp] theorem mRaiseI_eq (x name:Str) (m:ME) (Γ:Gam) (st:Q0):mRaiseI x name m Γ st=(m Γ st).sbind fun p st1=>.exc ⟨x,some (name,p)⟩ st1:=rfl
theorem room_u1 {k:Nat} {A:Around} (r:Room k A):A.units + 1 < cLine:=by have:=r.un; omega
end Sm
namespace Sm
open PySem PySem.Spec L2
section
variable {X:Cx} {E:XK}
end
end Sm
namespace Sm
open PySem PySem.Spec L2
section
variable {H0 H:Hp} {ρ0 ρ:Tk} {st:Q0} {a:Addr} {ps:List (Key × PV)} {vs:List (Key × V)}
end
def valP (kvs:List (Key × PV)) (k:Key):Option PV:=(kvs.find? fun kv=>decide (kv.1=k)).map (·.2)
def keyOf:PV->Option Key
  | .int i=>some (.inl i)
  | .str x=>some (.inr x)
  | _=>none
theorem rep_key {H:Hp} {ρ:Tk} {p:PV} {v:V} {k:Key} (e:keyOf p=some k) (r:Rep H ρ p v):v=kV k:=by
  cases p with
  | int i=>cases e; exact r
  | str x=>cases e; exact r
  | _=>cases e
section
variable {X:Cx} {E:XK} {pos dpos apos cpos:Pos} {e e1 e2 e3 i o f:Expr} {m m1 m2 m3 mi mo mf:ME} {k1 k2 k3:Str} {j1 j2 j3:Nat} {q1 q2 q3:Pos}
def mDisp3 (k1 k2 k3:Str) (m1 m2 m3:ME):ME:=fun Γ st=>(m1 Γ st).bind fun p1 st1=>(m2 Γ st1).bind fun p2 st2=>(m3 Γ st2).bind fun p3 st3=>.ok (.ref st3.length) (st3 ++ [.dic [(.inr k1,p1),(.inr k2,p2),(.inr k3,p3)]])
def dget2 (st:Q0) (i:Nat) (k z:PV):Res PV:=match st[i]?,keyOf k with
  | some (.dic kvs),some k=>.ok ((valP kvs k).getD z) st
  | _,_=>.stuck
def isDic (st:Q0) (i:Nat):Bool:=match st[i]? with
  | some (.dic _)=>true
  | _=>false
def mDGet2 (mo m mf:ME):ME:=fun Γ st=>(mo Γ st).bind fun p st1=>match p with
  | .ref i=>if isDic st1 i=true then (m Γ st1).bind fun k st2=>(mf Γ st2).bind fun z st3=>dget2 st3 i k z else .stuck
  | _=>.stuck
@[simp] theorem mDisp3_eq (Γ:Gam) (st:Q0):mDisp3 k1 k2 k3 m1 m2 m3 Γ st=(m1 Γ st).bind fun p1 st1=>(m2 Γ st1).bind fun p2 st2=>(m3 Γ st2).bind fun p3 st3=>.ok (.ref st3.length) (st3 ++ [.dic [(.inr k1,p1),(.inr k2,p2),(.inr k3,p3)]]):=rfl
@[simp] theorem mDGet2_eq (Γ:Gam) (st:Q0):mDGet2 mo m mf Γ st=(mo Γ st).bind fun p st1=>match p with
  | .ref i=>if isDic st1 i=true then (m Γ st1).bind fun k st2=>(mf Γ st2).bind fun z st3=>dget2 st3 i k z else .stuck
  | _=>.stuck:=rfl
end
end Sm
namespace Sm
open PySem PySem.Spec L2
section
variable {X:Cx} {E:XK} {pos dpos tpos:Pos} {e i o k:Expr} {m mi mo mk:ME}
def mDisp1 (mk m:ME):ME:=fun Γ st=>(mk Γ st).bind fun pk st1=>(m Γ st1).bind fun pv st2=>match keyOf pk with
  | some k=>.ok (.ref st2.length) (st2 ++ [.dic [(k,pv)]])
  | none=>.stuck
end
end Sm
namespace Sm
open PySem PySem.Spec L2
section
variable {X:Cx} {E:XK} {pos dpos tpos:Pos} {e i o k:Expr} {m mi mo mk:ME} {tg:Expr}
def mDisp0:ME:=fun Γ st=>.ok (.ref st.length) (st ++ [.dic []])
def thawS (st st':Q0):Nat->Q0
  | 0=>st'
  | n + 1=>match st[n]?,(thawS st st' n)[n]? with
    | some (.dic _),some (.frd kvs)=>(thawS st st' n).set n (.dic kvs)
    | _,_=>thawS st st' n
@[simp] theorem mDisp0_eq (Γ:Gam) (st:Q0):mDisp0 Γ st=.ok (.ref st.length) (st ++ [.dic []]):=rfl
end
end Sm
namespace Sm
open PySem PySem.Spec L2
def intsP:List PV->Option (List Int)
  | []=>some []
  | .int i :: xs=>(intsP xs).map (i :: ·)
  | _ :: _=>none
def tupsP:List PV->Option (List (List Int))
  | []=>some []
  | .tup ys :: xs=>match intsP ys with
    | some (n :: ns)=>(tupsP xs).map ((n :: ns) :: ·)
    | _=>none
  | _ :: _=>none
def Q3 (ns:List Int):PV:=.tup (ns.map .int)
theorem ints_rep {H:Hp} {ρ:Tk}:∀ {xs:List PV} {ns:List Int} {vs:List V},intsP xs=some ns->RepL H ρ xs vs->vs=ns.map V.int/\xs=ns.map PV.int
  | [],_,_,e,r=>by cases e; exact ⟨r,rfl⟩
  | .int i :: xs,ns,_,e,⟨v,t,e1,r1,r2⟩=>by
    have e:(intsP xs).map (i :: ·)=some ns:=e
    cases z:intsP xs with
    | none=>rw [z] at e; cases e
    | some ns'=>
      rw [z] at e
      cases e
      obtain ⟨h1,h2⟩:=ints_rep z r2
      have r1:v=.int i:=r1
      exact ⟨by rw [e1,r1,h1]; rfl,by rw [h2]; rfl⟩
  | .non :: _,_,_,e,_=>by cases e
  | .bl _ :: _,_,_,e,_=>by cases e
  | .str _ :: _,_,_,e,_=>by cases e
  | .tup _ :: _,_,_,e,_=>by cases e
  | .lst _ :: _,_,_,e,_=>by cases e
  | .fro _ :: _,_,_,e,_=>by cases e
  | .ref _ :: _,_,_,e,_=>by cases e
  | .dic :: _,_,_,e,_=>by cases e
theorem tups_rep {H:Hp} {ρ:Tk}:∀ {xs:List PV} {nss:List (List Int)} {vs:List V},tupsP xs=some nss->RepL H ρ xs vs->xs=nss.map Q3/\Paired (fun (v:V) (ns:List Int)=>ns ≠ []/\∃ a,v=.ref a/\H a=some (.tup (ns.map V.int))) vs nss
  | [],_,_,e,r=>by cases e; cases r; exact ⟨rfl,.nil⟩
  | .tup ys :: xs,nss,vs,e,⟨v,t,e1,r1,r2⟩=>by
    have e:(match intsP ys with | some (n :: ns)=>(tupsP xs).map ((n :: ns) :: ·) | _=>none)=some nss:=e
    cases zi:intsP ys with
    | none=>rw [zi] at e; cases e
    | some ms=>
      cases ms with
      | nil=>rw [zi] at e; cases e
      | cons n ns=>
        rw [zi] at e
        cases z:tupsP xs with
        | none=>rw [z] at e; cases e
        | some nss'=>
          rw [z] at e
          cases e
          obtain ⟨h1,h2⟩:=tups_rep z r2
          obtain ⟨a,us,rfl,ha,_,ru⟩:=r1
          obtain ⟨g1,g2⟩:=ints_rep zi ru
          subst e1
          exact ⟨by rw [h1,g2]; rfl,.cons ⟨by simp,a,rfl,by rw [ha,g1]⟩ h2⟩
  | .int _ :: _,_,_,e,_=>by cases e
  | .non :: _,_,_,e,_=>by cases e
  | .bl _ :: _,_,_,e,_=>by cases e
  | .str _ :: _,_,_,e,_=>by cases e
  | .lst _ :: _,_,_,e,_=>by cases e
  | .fro _ :: _,_,_,e,_=>by cases e
  | .ref _ :: _,_,_,e,_=>by cases e
  | .dic :: _,_,_,e,_=>by cases e
theorem repL_pick {H:Hp} {ρ:Tk} {nss:List (List Int)} {vs:List V} (r:RepL H ρ (nss.map Q3) vs):∀ (pp:List Nat),(∀ x ∈ pp,x < vs.length)->RepL H ρ ((pp.map fun i=>nss.getD i []).map Q3) (pp.map fun i=>vs.getD i .non)
  | [],_=>rfl
  | x :: pp,h=>by
    have hx:=h x (by simp)
    have hl:=r.length
    rw [List.length_map] at hl
    have e1:(nss.map Q3)[x]?=some (Q3 (nss.getD x [])):=by
      rw [List.getElem?_map,List.getElem?_eq_getElem (by omega),List.getD_eq_getElem?_getD,List.getElem?_eq_getElem (by omega)]; rfl
    have e2:vs[x]?=some (vs.getD x .non):=by rw [List.getD_eq_getElem?_getD,List.getElem?_eq_getElem hx]; rfl
    exact RepL.cons (r.i e1 e2) (repL_pick r pp fun y hy=>h y (List.mem_cons_of_mem _ hy))
section
variable {X:Cx} {E:XK}
def cSortT:CF:=fun st ps=>match ps with
  | [p]=>match listOf st p with
    | some xs=>match tupsP xs with
      | some nss=>if nss.length < 64 then .ok (.lst ((sortL nss).map Q3)) st else .stuck
      | none=>.stuck
    | none=>.stuck
  | _=>.stuck
theorem cs_sortT:CallS X E (.builtin "sorted") cSortT:=⟨fun H ρ st ps xs Q R rp h=>by
  unfold cSortT at h
  split at h
  · rename_i p
    obtain ⟨v,rfl,r⟩:=repL_one rp
    split at h
    · rename_i ys el
      split at h
      · rename_i nss en
        split at h
        · rename_i h64
          obtain ⟨a,vs,rfl,hr,rl⟩:=list_at R r el
          obtain ⟨g1,g2⟩:=tups_rep en rl
          subst g1
          have hl:=rl.length
          rw [List.length_map] at hl
          refine WC.of call_sortedT ⟨a,vs,nss,rfl,.inl hr,by omega,g2,fun d pp hd hp he=>?_⟩
          have rr:=repL_pick rl pp fun x hx=>by have:=hp.mem_iff.mp hx; simpa using this
          rw [he] at rr
          exact new_lst R h rr d hd
        · exact h.elim
      · exact h.elim
    · exact h.elim
  · exact h.elim⟩
end
end Sm
namespace Sm
open PySem PySem.Spec L2
theorem boot_sorted:bootBuiltins "sorted" = some (.builtin "sorted"):=by decide +kernel
section
variable {X:Cx} {E:XK} {pos apos tp:Pos} {e:Expr} {m:ME} {elts:List Expr} {kt:Nat}
end
end Sm
namespace Sm
open PySem PySem.Spec L2
def keysT:List PV->Option (List Key)
  | []=>some []
  | p :: ps=>match keyOf p with
    | some k=>(keysT ps).map (k :: ·)
    | none=>none
theorem keysT_rep {H:Hp} {ρ:Tk}:∀ {ps:List PV} {ks:List Key} {vs:List V},keysT ps=some ks->RepL H ρ ps vs->vs=ks.map kV
  | [],_,_,e,r=>by cases e; exact r
  | p :: ps,ks,_,e,⟨v,t,e1,r1,r2⟩=>by
    have e:(match keyOf p with | some k=>(keysT ps).map (k :: ·) | none=>none)=some ks:=e
    cases kk:keyOf p with
    | none=>rw [kk] at e; cases e
    | some k=>
      rw [kk] at e
      cases z:keysT ps with
      | none=>rw [z] at e; cases e
      | some ks'=>
        rw [z] at e
        cases e
        rw [e1,rep_key kk r1,keysT_rep z r2]; rfl
def putT (kvs:List (List Key × PV)) (k:List Key) (v:PV):List (List Key × PV):=
  if (kvs.any fun kv=>decide (kv.1=k))=true then kvs.map (fun kv=>if kv.1=k then (kv.1,v) else kv) else kvs ++ [(k,v)]
theorem repT_put {H:Hp} {ρ:Tk} {kvs:List (List Key × PV)} {vs:List (List Key × V)} (r:RepD H ρ kvs vs) (k:List Key) {p:PV} {v:V} (rp:Rep H ρ p v):RepD H ρ (putT kvs k p) (putK vs k v):=by
  have ha:(kvs.any fun kv=>decide (kv.1=k))=vs.any fun kv=>decide (kv.1=k):=by
    have e1:(kvs.any fun kv=>decide (kv.1=k))=(kvs.map Prod.fst).any fun x=>decide (x=k):=by rw [List.any_map]; rfl
    have e2:(vs.any fun kv=>decide (kv.1=k))=(vs.map Prod.fst).any fun x=>decide (x=k):=by rw [List.any_map]; rfl
    rw [e1,e2,r.1]
  unfold putT putK
  rw [<- ha]
  by_cases q:(kvs.any fun kv=>decide (kv.1=k))=true
  · rw [if_pos q,if_pos q]
    have key:∀ (kvs:List (List Key × PV)) (vs:List (List Key × V)),RepD H ρ kvs vs->RepD H ρ (kvs.map fun kv=>if kv.1=k then (kv.1,p) else kv) (vs.map fun kv=>if kv.1=k then (kv.1,v) else kv):=by
      intro kvs
      induction kvs with
      | nil=>
        intro vs r
        cases vs with
        | nil=>exact r
        | cons _ _=>have:=r.length; cases this
      | cons a kvs ih=>
        intro vs r
        cases vs with
        | nil=>have:=r.length; cases this
        | cons b vs=>
          obtain ⟨r1,x,t,e,r2,r3⟩:=r
          obtain ⟨e1,e2⟩:=List.cons.inj (show b.1 :: vs.map Prod.fst=a.1 :: kvs.map Prod.fst from r1)
          obtain ⟨e3,e4⟩:=List.cons.inj (show b.2 :: vs.map Prod.snd=x :: t from e)
          subst e3; subst e4
          obtain ⟨i1,i2⟩:=ih vs ⟨e2,r3⟩
          rw [List.map_cons,List.map_cons]
          by_cases z:a.1=k
          · have zb:b.1=k:=e1.trans z
            rw [if_pos z,if_pos zb]
            exact ⟨by rw [List.map_cons,List.map_cons,i1]; show b.1 :: _=a.1 :: _; rw [e1],RepL.cons rp i2⟩
          · have zb:¬ b.1=k:=fun h=>z (e1.symm.trans h)
            rw [if_neg z,if_neg zb]
            exact ⟨by rw [List.map_cons,List.map_cons,i1]; show b.1 :: _=a.1 :: _; rw [e1],RepL.cons r2 i2⟩
    exact key kvs vs r
  · rw [if_neg q,if_neg q]
    refine ⟨?_,?_⟩
    · rw [List.map_append,List.map_append,r.1]; rfl
    · rw [List.map_append,List.map_append]
      exact r.2.append (RepL.cons rp RepL.nil)
section
variable {X:Cx} {E:XK} {pos dpos tpos:Pos} {e i o k:Expr} {m mi mo mk:ME}
def mDispT:ME:=fun Γ st=>.ok (.ref st.length) (st ++ [.dtp []])
theorem se_dispT:SimE X E (.Dict [] [] dpos) mDispT:=⟨fun Γ σ H ρ st Q R G h=>WE.of pe_dnewT fun d hd=>by
  have x:Ext H ρ (upd H d (.dT [])) (ρ.add d):=Ext.addT hd
  refine h _ _ x (R.addC hd ⟨_,upd_same,rfl,rfl⟩) _ ⟨d,?_,rfl⟩
  show (ρ.tr ++ [d])[st.length]?=some d
  rw [<- R.len,List.getElem?_append_right (Nat.le_refl _),Nat.sub_self]; rfl⟩
def dtpOf (st:Q0):PV->Option (List (List Key × PV))
  | .ref i=>match st[i]? with
    | some (.dtp kvs)=>some kvs
    | _=>none
  | _=>none
theorem dtpOf_at {H:Hp} {ρ:Tk} {st:Q0} {p:PV} {v:V} {kvs:List (List Key × PV)} (R:Rel H ρ st) (r:Rep H ρ p v) (e:dtpOf st p=some kvs):∃ i a vs,p=.ref i/\v=.ref a/\ρ.tr[i]?=some a/\st[i]?=some (.dtp kvs)/\H a=some (.dT vs)/\RepD H ρ kvs vs:=by
  cases p with
  | ref i=>
    obtain ⟨a,ea,rfl⟩:=r
    unfold dtpOf at e
    cases z:st[i]? with
    | none=>simp only [z] at e; cases e
    | some c=>
      simp only [z] at e
      cases c with
      | dtp kvs'=>
        cases e
        obtain ⟨b,vs,eb,hb,rd⟩:=R.dtp z
        rw [ea] at eb
        cases eb
        exact ⟨i,a,vs,rfl,rfl,ea,z,hb,rd⟩
      | lst xs=>cases e
      | dic xs=>cases e
      | frd xs=>cases e
  | _=>cases e
def dputT (st:Q0) (p q v:PV):Option Q0:=match p,q with
  | .ref n,.tup ks=>match dtpOf st (.ref n),keysT ks with
    | some kvs,some k=>if kvs.length < lim then some (st.set n (.dtp (putT kvs k v))) else none
    | _,_=>none
  | _,_=>none
def mDPutT (mo mi m:ME):MS:=fun Γ st=>(m Γ st).sbind fun v st1=>(mo Γ st1).sbind fun p st2=>(mi Γ st2).sbind fun q st3=>match dputT st3 p q v with
  | some st4=>.nx Γ st4
  | none=>.stuck
theorem ss_dputT (hu:X.A.units + 1 < cLine) (he:SimE X E e m) (ho:SimE X E o mo) (hi:SimE X E i mi) (hs:swapsWith e (some (.Subscript o i tpos)) pos.line X.env=pure false:=by rfl):SimS X E (.Assign [.Subscript o i tpos] e pos) (mDPutT mo mi m):=
  ⟨fun Γ σ H ρ st D R G h=>WS.of (ps_dput hu pe_w pe_w pe_w hs) (he.use R G h.bind fun v st1 H1 ρ1 z x1 R1 G1 r1 h1=>ho.use R1 G1 h1.bind fun p st2 H2 ρ2 x x2 R2 G2 r2 h2=>hi.use R2 G2 h2.bind fun q st3 H3 ρ3 y x3 R3 G3 r3 h3=>by
    cases es:dputT st3 p q v with
    | none=>rw [es] at h3; exact h3.elim
    | some st4=>
      rw [es] at h3
      unfold dputT at es
      split at es
      · rename_i n ks
        split at es
        · rename_i kvs k e1 e2
          split at es
          · rename_i hl
            cases es
            obtain ⟨n',a,vs,en,rfl,ea,hsx,hb,rd⟩:=dtpOf_at R3 (r2.ext x3) e1
            cases en
            obtain ⟨b,us,rfl,hbt,_,ru⟩:=r3
            have eus:=keysT_rep e2 ru
            subst eus
            have x4:Ext H3 ρ3 (upd H3 a (.dT (putK vs k z))) ρ3:=Ext.put (List.mem_of_getElem? ea) hb
            have rz:=(r1.ext (x2.trans x3)).ext x4
            have R4:Rel (upd H3 a (.dT (putK vs k z))) ρ3 (st3.set n (.dtp (putT kvs k v))):=R3.putC ea hb ⟨_,upd_same,repT_put (rd.ext x4) k rz⟩
            refine ⟨a,_,rfl,DPut.t hb hbt (by rw [<- rd.length]; exact Nat.lt_of_lt_of_le hl lim_le),h3 σ _ ρ3 x4 R4 (G3.ext x4)⟩
          · cases es
        · cases es
      · cases es)⟩
def cLenT:CF:=fun st ps=>match ps with
  | [p]=>match dtpOf st p with
    | some kvs=>if kvs.length < 1000000 then .ok (.int (kvs.length:Nat)) st else .stuck
    | none=>.stuck
  | _=>.stuck
theorem cs_lenT:CallS X E (.builtin "len") cLenT:=⟨fun H ρ st ps xs Q R rp h=>by
  unfold cLenT at h
  split at h
  · rename_i p
    obtain ⟨v,rfl,r⟩:=repL_one rp
    split at h
    · rename_i kvs e
      split at h
      · rename_i hl
        obtain ⟨n,a,vs,rfl,rfl,_,_,hb,rd⟩:=dtpOf_at R r e
        rw [rd.length] at h hl
        exact WC.of call_lenDT ⟨a,vs,rfl,hb,hl,now R h rfl⟩
      · exact h.elim
    · exact h.elim
  · exact h.elim⟩
def intK:List Key->Option (List Int)
  | []=>some []
  | .inl i :: ks=>(intK ks).map (i :: ·)
  | .inr _ :: _=>none
def keysI:List (List Key × PV)->Option (List (List Int))
  | []=>some []
  | (k,_) :: r=>match intK k with
    | some (n :: ns)=>(keysI r).map ((n :: ns) :: ·)
    | _=>none
theorem intK_eq:∀ {ks:List Key} {ns:List Int},intK ks=some ns->ks=ns.map Sum.inl
  | [],_,e=>by cases e; rfl
  | .inl i :: ks,ns,e=>by
    have e:(intK ks).map (i :: ·)=some ns:=e
    cases z:intK ks with
    | none=>rw [z] at e; cases e
    | some ns'=>rw [z] at e; cases e; rw [intK_eq z]; rfl
  | .inr _ :: _,_,e=>by cases e
theorem keysI_at {H:Hp} {ρ:Tk}:∀ {kvs:List (List Key × PV)} {vs:List (List Key × V)} {nss:List (List Int)},keysI kvs=some nss->RepD H ρ kvs vs->Paired (fun (p:List Key × V) (ns:List Int)=>ns ≠ []/\p.1=ns.map Sum.inl) vs nss
  | [],[],_,e,_=>by cases e; exact .nil
  | [],_ :: _,_,_,r=>by have:=r.length; cases this
  | _ :: _,[],_,_,r=>by have:=r.length; cases this
  | (k,p) :: kvs,(k',v) :: vs,nss,e,r=>by
    obtain ⟨r1,x,t,e',r2,r3⟩:=r
    obtain ⟨e1,e2⟩:=List.cons.inj (show k' :: vs.map Prod.fst=k :: kvs.map Prod.fst from r1)
    obtain ⟨e3,e4⟩:=List.cons.inj (show v :: vs.map Prod.snd=x :: t from e')
    subst e3; subst e4
    have e:(match intK k with | some (n :: ns)=>(keysI kvs).map ((n :: ns) :: ·) | _=>none)=some nss:=e
    cases zi:intK k with
    | none=>rw [zi] at e; cases e
    | some ms=>
      cases ms with
      | nil=>rw [zi] at e; cases e
      | cons n ns=>
        rw [zi] at e
        cases z:keysI kvs with
        | none=>rw [z] at e; cases e
        | some nss'=>
          rw [z] at e
          cases e
          exact .cons ⟨by simp,by rw [show (k',v).1=k from e1]; exact intK_eq zi⟩ (keysI_at z ⟨e2,r3⟩)
theorem repL_tups {H:Hp} {ρ:Tk} (hn:∀ b xs,H b=some (.tup xs)->b ∉ ρ):∀ {vs:List V} {nss:List (List Int)},Paired (fun (v:V) (ns:List Int)=>∃ b,v=.ref b/\H b=some (.tup (ns.map V.int))) vs nss->RepL H ρ (nss.map Q3) vs
  | [],[],.nil=>rfl
  | v :: vs,ns :: nss,.cons ⟨b,e,hb⟩ t=>by
    subst e
    refine RepL.cons ⟨b,_,rfl,hb,hn b _ hb,?_⟩ (repL_tups hn t)
    clear hb t
    induction ns with
    | nil=>exact rfl
    | cons x ns ih=>exact RepL.cons rfl ih
def cSortD:CF:=fun st ps=>match ps with
  | [p]=>match dtpOf st p with
    | some kvs=>match keysI kvs with
      | some nss=>if nss.length < 64 then .ok (.lst ((sortL nss).map Q3)) st else .stuck
      | none=>.stuck
    | none=>.stuck
  | _=>.stuck
theorem tup_out {H:Hp} {ρ:Tk} {st:Q0} (R:Rel H ρ st) (b:Addr) (xs:List V) (h:H b=some (.tup xs)):b ∉ ρ:=fun z=>by
  rcases z with z | z
  · obtain ⟨i,hi,e⟩:=List.getElem_of_mem z
    have hs:i < st.length:=by rw [<- R.len]; exact hi
    have q:=R.cell i b st[i] (by rw [List.getElem?_eq_getElem hi,e]) (List.getElem?_eq_getElem hs)
    cases hc:st[i] with
    | lst xs=>rw [hc] at q; obtain ⟨vs,h1,_⟩:=q; rw [h] at h1; cases h1
    | dic xs=>rw [hc] at q; obtain ⟨vs,h1,_⟩:=q; rw [h] at h1; cases h1
    | dtp xs=>rw [hc] at q; obtain ⟨vs,h1,_⟩:=q; rw [h] at h1; cases h1
    | frd xs=>rw [hc] at q; obtain ⟨vs,⟨_,h1⟩,_⟩:=q; rw [h] at h1; cases h1
  · obtain ⟨o,h1,h2⟩:=R.hd b z
    rw [h] at h1
    cases h1
    exact h2 xs rfl
theorem cs_sortD (hc:X.calm=true):CallS X E (.builtin "sorted") cSortD:=⟨fun H ρ st ps xs Q R rp h=>by
  unfold cSortD at h
  split at h
  · rename_i p
    obtain ⟨v,rfl,r⟩:=repL_one rp
    split at h
    · rename_i kvs e
      split at h
      · rename_i nss en
        split at h
        · rename_i h64
          obtain ⟨n,a,vs,rfl,rfl,_,_,hb,rd⟩:=dtpOf_at R r e
          have pr:=keysI_at en rd
          have l2:vs.length=nss.length:=Paired.length pr
          refine WC.of (call_sortedDT hc) ⟨a,vs,nss,rfl,hb,by omega,pr,fun d pp us hd hu hp he=>?_⟩
          have rl:=repL_tups (tup_out R) hu
          have l3:us.length=nss.length:=Paired.length hu
          have rr:=repL_pick rl pp fun x hx=>by have:=hp.mem_iff.mp hx; rw [l3]; simpa using this
          rw [he] at rr
          exact new_lst R h rr d hd
        · exact h.elim
      · exact h.elim
    · exact h.elim
  · exact h.elim⟩
end
end Sm
namespace Sm
open PySem PySem.Spec L2
section
variable {X:Cx} {E:XK}
end
end Sm
namespace Sm
open PySem PySem.Spec L2
section
variable {X:Cx} {E:XK} {a:Expr} {ma:ME} {pos:Pos}
end
end Sm
namespace Sm
open PySem PySem.Spec L2 SeqAt
section
variable {X:Cx} {E:XK}
variable {o:Expr} {mo:ME} {apos cpos:Pos}
end
end Sm
namespace Sm
open PySem PySem.Spec L2 SeqAt
section
variable {X:Cx} {E:XK}
variable {e o i:Expr} {m mo mi:ME} {pos tpos:Pos}
def mAug (i:Nat) (f:Int->Int->Int) (m:ME):MS:=fun Γ st=>match Γ[i]? with
  | some (some (.int a))=>(m Γ st).sbind fun v st1=>match v with
    | .int b=>.nx (Γ.set i (some (.int (f a b)))) st1
    | _=>.stuck
  | _=>.stuck
theorem ss_aug (i:Nat) {x:Str} {pos':Pos} {op:Operator} {f:Int->Int->Int} (hp:PIp X op (ipI f)) (hN:X.N.Nodup) (he:SimE X E e m) (hi:X.N[i]?=some x:=by rfl) (hx:Loc X.env.scope x:=by first | exact Or.inl rfl | exact Or.inr rfl) (hf:X.fn x=true\/X.env.scope.names.lookup x=some .local:=by first | exact .inl rfl | exact .inr rfl) :
    SimS X E (.AugAssign (.Name x pos') op e pos) (mAug i f m):=⟨fun Γ σ H ρ st D R G h=>by
  unfold mAug at h
  split at h
  · rename_i a ea
    obtain ⟨v,ev,rv⟩:=G.2 i _ ea
    cases rv
    refine WS.of (ps_aug hN hi hx pe_w hp hf) ⟨_,ev,he.use R G h.bind fun p st1 H1 ρ1 w x1 R1 G1 r1 h1=>?_⟩
    cases p with
    | int b=>
      cases r1
      exact ⟨a,b,rfl,rfl,h1 _ H1 ρ1 (Ext.refl _ _) R1 (G1.set (p:=.int (f a b)) (v:=.int (f a b)) rfl i)⟩
    | _=>exact h1.elim
  · exact h.elim⟩
end
end Sm
namespace Sm
open PySem PySem.Spec L2
structure DefX (P:Program) (w:World) (K:PySem.W.Frag) (mg:Str->Option Value) (base:Heap) (k:Nat) (x:Str) (ps:List Str) (sp:Sp):Prop where
  ex:∃ (f:Addr) (fd:FuncData),FnOk P w K mg base (CXD P w) k f fd ps sp/\mg x=some (.ref f)/\PySem.W.keepIn K (.ref f)=true/\Binds K fd ps []
theorem same_add {H0 H:Hp} (h:Same H0 H) {p:Addr} {o:HO} (hp:H p=none):Same H0 (upd H p o):=fun b u e=>by
  have:=h b u e
  rw [Qb fun z=>by rw [z,hp] at this; cases this]; exact this
structure Nms (mg:Str->Option Value) (c:Nat->Addr):Prop where
  m0:mg "WharfError" = some (.ref (c 0))
  m1:mg "NoTable" = some (.ref (c 1))
  m2:mg "NoHouse" = some (.ref (c 2))
  m3:mg "NoDeed" = some (.ref (c 3))
  m4:mg "NoLetter" = some (.ref (c 4))
  m5:mg "NoStand" = some (.ref (c 5))
  m6:mg "NoRoad" = some (.ref (c 6))
  m7:mg "NoPlan" = some (.ref (c 7))
  m8:mg "NoBook" = some (.ref (c 8))
  m9:mg "NoManner" = some (.ref (c 9))
  m10:mg "TooMany" = some (.ref (c 10))
  m11:mg "NoText" = some (.ref (c 11))
  m12:mg "NoRow" = some (.ref (c 12))
  m13:mg "NoName" = some (.ref (c 13))
  m14:mg "Short" = some (.ref (c 14))
  ve:mg "ValueError" = none
  isi:mg "isinstance" = none
structure TgtS (K:PySem.W.Frag) (c:Nat->Addr) (t:Nat):Prop where
  xc:XCls K (c t)
  ve:PySem.W.kitOne K (.ref (c t)) (.type "ValueError")=some true
  ex:PySem.W.exmOne K (.ref (c t)) (.ref (c 0))=some true
  k:∀ i,1<=i->i<=14->PySem.W.kitOne K (.ref (c t)) (.ref (c i))=some (decide (i=t))
theorem boot_ValueError:bootBuiltins "ValueError" = some (.type "ValueError"):=by decide +kernel
theorem keepE {H:Hp} {e p:Addr} {v o:HO} (h:H e=some v) (hp:H p=none):upd H p o e=some v:=by
  rw [Qb fun z=>by rw [z,hp] at h; cases h]; exact h
theorem noB (bs:List Bool) (j:Nat) (h:(bs.take j).all (fun b=>!b)=true) (hl:j<=bs.length):∀ m,m < j->bs[m]?=some false:=fun m hm=>by
  have hb:m < bs.length:=by omega
  have:=List.all_eq_true.mp h (bs[m]) (List.mem_take_iff_getElem.mpr ⟨m,by omega,rfl⟩)
  rw [List.getElem?_eq_getElem hb]
  cases q:bs[m] with
  | false=>rfl
  | true=>rw [q] at this; cases this
section
variable {X:Cx}
def tStrs (ss:List Str):TA:=fun σ H Q=>Q (ss.map V.str) H
theorem pa_strs:∀ (l:List (Str × Nat × Pos)),PA X (l.map fun p=>Expr.Constant (.str p.1) p.2.1 p.2.2) (tStrs (l.map (·.1)))
  | []=>fun pos pins s σ H Q I h=>pa_nil pos pins s σ H Q I h
  | (x,j,p) :: l=>fun pos pins s σ H Q I h=>pa_cons (e:=.Constant (.str x) j p) pe_str (pa_strs l) rfl pos pins s σ H Q I h
theorem pa_strsE (ss:List Str) (l:List (Nat × Pos)) {es:List Expr} (h:es=(ss.zip l).map (fun p=>Expr.Constant (.str p.1) p.2.1 p.2.2)) (hl:ss.length=l.length:=by rfl):PA X es (tStrs ss):=by
  have e:((ss.zip l).map fun p=>((p.1,p.2.1,p.2.2):Str × Nat × Pos)).map (fun p=>Expr.Constant (.str p.1) p.2.1 p.2.2)=es:=by rw [h,List.map_map]; rfl
  have e2:((ss.zip l).map fun p=>((p.1,p.2.1,p.2.2):Str × Nat × Pos)).map (·.1)=ss:=by
    rw [List.map_map]
    show (ss.zip l).map Prod.fst=ss
    exact List.map_fst_zip (by omega)
  have:=pa_strs (X:=X) ((ss.zip l).map fun p=>(p.1,p.2.1,p.2.2))
  rw [e,e2] at this
  exact this
end
end Sm
namespace Sm
open PySem PySem.Spec L2
structure AtS (K:PySem.W.Frag) (mg:Str->Option Value) (name:Str) (st:Stmt) (ps:List Str) (f:Addr) (fd:FuncData):Prop where
  F:Fun K name name st f fd
  m:mg name=some (.ref f)
  b:Binds K fd ps []
theorem atS_mk {K:PySem.W.Frag} {mg:Str->Option Value} {h:Heap} {name:Str} {st:Stmt} {ps:List Str} {f:Addr} {oc:Value} {od an:Option Addr} {osl:Array (Option Value)} {kV doc pm cdv ct:Value} (X:K.In h) (G:h.Ns mainGlobals mg)
    (a:PySem.W.nsIn K mainGlobals name=some (some (.ref f))) (l:K.lookup f=some ⟨oc,od,.func (PySem.W.fnOf name name (defArgs st) (defBody st) (Q7 st) .none kV doc pm an cdv ct),osl⟩) (c:PySem.W.codeIn K cdv name=true) (k:PySem.W.keepIn K (.ref f)=true)
    (b:∀ (kV doc pm:Value) (an:Option Addr) (cdv ct:Value) (us:List Value),us.length=ps.length->bindArgs (PySem.W.fnOf name name (defArgs st) (defBody st) (Q7 st) .none kV doc pm an cdv ct) ⟨us,[]⟩=pure (ps.zip us)) :
    AtS K mg name st ps f (PySem.W.fnOf name name (defArgs st) (defBody st) (Q7 st) .none kV doc pm an cdv ct):=
  have F:=fun_mk (st:=st) l c k
  ⟨F,PySem.W.mg_of X G a,F.binds b⟩
theorem AtS.def {P:Program} {w:World} {K:PySem.W.Frag} {mg:Str->Option Value} {base:Heap} {name:Str} {st:Stmt} {ps:List Str} {f:Addr} {fd:FuncData} {k n:Nat} {F:FN} (a:AtS K mg name st ps f fd) (hn:ps.length=n) (G:FnOk P w K mg base (CXD P w) k f fd ps (spF mg n F)):DefS P w K mg base k name n F:=
  ⟨f,fd,ps,G,a.m,a.F.kp,a.b,hn⟩
theorem AtS.defX {P:Program} {w:World} {K:PySem.W.Frag} {mg:Str->Option Value} {base:Heap} {name:Str} {st:Stmt} {ps:List Str} {f:Addr} {fd:FuncData} {k:Nat} {sp:Sp} (a:AtS K mg name st ps f fd) (G:FnOk P w K mg base (CXD P w) k f fd ps sp):DefX P w K mg base k name ps sp:=⟨f,fd,G,a.m,a.F.kp,a.b⟩
def noL (K:PySem.W.Frag):Bool:=K.all fun p=>match p.2.data with
  | .seq _ _=>(match p.2.cls with
    | .type n=>!(n == ("list" : Str))
    | _=>true)
  | _=>true
theorem lookup_mem {K:PySem.W.Frag} {a:Addr} {o:Obj} (h:K.lookup a=some o):(a,o) ∈ K:=by
  induction K with
  | nil=>cases h
  | cons p K ih=>
    obtain ⟨b,u⟩:=p
    rw [List.lookup_cons] at h
    cases e:a == b with
    | true=>
      rw [e] at h
      have:a=b:=by simpa using e
      subst this
      cases h
      exact List.mem_cons_self
    | false=>
      rw [e] at h
      exact List.mem_cons_of_mem _ (ih h)
theorem noL_no {K:PySem.W.Frag} {a:Addr} {o:Obj} {its:Array Value} {n:Nat} (hL:noL K=true) (h:K.lookup a=some o) (hc:o.cls=.type "list") (hd:o.data=.seq its n):False:=by
  have:=List.all_eq_true.mp hL _ (lookup_mem h)
  simp [hc,hd] at this
theorem repL_ints {H:Hp} {ρ:Tk}:∀ ns:List Int,RepL H ρ (ns.map .int) (ns.map V.int)
  | []=>rfl
  | n :: ns=>⟨_,_,rfl,rfl,repL_ints ns⟩
theorem rel_nil (H:Hp):Rel H Tk.nil []:=⟨rfl,List.nodup_nil,fun a h=>(by cases h),fun a h=>(by cases h),fun i a c h=>(by simp [Tk.nil] at h)⟩
def spLawS (K:PySem.W.Frag):Sp:=fun vs H Q _=>∃ (a:Addr) (ns:List Int),vs=[.ref a]/\SqL K H a (ns.map V.int)/\ns.length<=63/\∀ H',Q (.bl true) H'
theorem law_imp {P:Program} {w:World} {K:PySem.W.Frag} {mg:Str->Option Value} {base:Heap} {CX:CXT} {k:Nat} {f:Addr} {fd:FuncData} {ps:List Str} {FL:FN} (hL:noL K=true) (F:FnOk P w K mg base CX k f fd ps (spF mg 1 FL)) (hlaw:∀ ns:List Int,ns.length<=63->∃ st',FL [.fro (ns.map .int)] []=.ok (.bl true) st'):FnOk P w K mg base CX k f fd ps (spLawS K):=F.imp fun vs H Q E ⟨a,ns,e,hS,hl,hQ⟩=>by
  subst e
  obtain ⟨st',hF⟩:=hlaw ns hl
  have hR:Rd H a (.lst (ns.map V.int)):=by
    rcases hS with h | ⟨o,its,n,h1,h2,h3,h4,_⟩
    · exact h
    · exact (noL_no hL h1 h2 h4).elim
  refine ⟨rfl,Tk.nil,[],[.fro (ns.map .int)],rel_nil H,⟨_,_,rfl,⟨a,_,rfl,hR,Tk.not_nil a,repL_ints ns⟩,rfl⟩,?_⟩
  rw [hF]
  intro H' ρ' x R v r
  have e:v=.bl true:=r
  subst e
  exact hQ H'
theorem cxd_none {P:Program} {w:World} {H:Hp} {s:Shared} {e:Value} {s':Shared} (h:CXD P w [] H s (fun _ _ _=>False) e s'):False:=by
  obtain ⟨_,_,_,_,_,_,_,_,_,z⟩:=h
  exact z
theorem walkS {l:PySem.W.OpenLaw} {k:Nat} {q:Program} {loose:List Str} {XP:(Str->Option Value)->Heap->Prop} {YP:World->Heap->Prop} {d:DefRec} {K:Params->PySem.W.Frag} (hn:l.most=some 63) (hr:Room k callerA) (hdf:d.params.defaults=[])
    (hY:∀ (w:World) (h:Heap),YP w h->(K w.params).In h)
    (F:∀ (w:World) (mg:Str->Option Value) (fa:Addr) (h:Heap),(K w.params).In h->h.Ns mainGlobals mg->mg d.name=some (.ref fa) ->
      ∃ fd:FuncData,(∀ (s:Shared) (u:Value),BindsTo s fd ⟨[u],[]⟩ [("script",u)])/\∀ base:Heap,(K w.params).In base->base.Ns mainGlobals mg->FnOk l.prog w (K w.params) mg base (CXD l.prog w) k fa fd ["script"] (spLawS (K w.params))) :
    PySem.W.WalkO q loose XP YP l.row.toRowW d [] (fun f vs=>PySem.call f vs):=
  L2.walk_of (n:=63) (k:=k) (x := "script") (CX:=fun w=>CXD l.prog w) (sp:=fun w=>spLawS (K w.params)) hn (by decide) hdf hr hY F (fun _ _ a ns hl _ hS=>⟨a,ns,rfl,hS,hl,fun _=>rfl⟩) fun _ _ _ _ _ z=>cxd_none z
end Sm
namespace Lw
open PySem PySem.Spec L2 Sm
def top (i:Nat):Stmt:=PySem.Challenge.pw_lendwharf_k56_books_refused_and_papers_l.main.body.getD i (.Pass ⟨0,0,0,0⟩)
abbrev s_is_whole:Stmt:=top 17
abbrev s_is_between:Stmt:=top 18
abbrev s_is_rising:Stmt:=top 19
abbrev s_is_sized_tuple:Stmt:=top 20
abbrev s_are_rising_houses:Stmt:=top 23
abbrev s_is_group:Stmt:=top 24
abbrev s_are_sets:Stmt:=top 25
abbrev s_is_book:Stmt:=top 26
abbrev s_need_book:Stmt:=top 27
abbrev s_need_gone:Stmt:=top 28
abbrev s_need_pool_of_book:Stmt:=top 29
abbrev s_meets:Stmt:=top 30
abbrev s_set_without:Stmt:=top 31
abbrev s_set_within:Stmt:=top 32
abbrev s_free_set:Stmt:=top 33
abbrev s_unmet_set:Stmt:=top 34
abbrev s_is_stuck:Stmt:=top 35
abbrev s_is_blind:Stmt:=top 36
abbrev s_groups_of:Stmt:=top 37
abbrev s_paper_of:Stmt:=top 38
abbrev s_bears:Stmt:=top 39
abbrev s_most_borne:Stmt:=top 40
abbrev s__law_e_stirred:Stmt:=top 42
abbrev s__law_e_digit:Stmt:=top 43
abbrev s__law_e_subset:Stmt:=top 44
abbrev s__law_e_sized:Stmt:=top 45
abbrev s__law_e_book:Stmt:=top 46
abbrev s__law_e_hit:Stmt:=top 47
abbrev s__law_e_within:Stmt:=top 48
abbrev s__law_e_door:Stmt:=top 49
abbrev s__law_e_kind:Stmt:=top 50
abbrev s__law_e_word:Stmt:=top 51
abbrev s__law_e_looks_right:Stmt:=top 52
abbrev s__law_e_refusals_right:Stmt:=top 53
abbrev s_law:Stmt:=top 54
structure Txt (mg:Str->Option Value):Prop where
  b_all:mg "all" = none
  b_any:mg "any" = none
  b_bool:mg "bool" = none
  b_int:mg "int" = none
  b_isinstance:mg "isinstance" = none
  b_len:mg "len" = none
  b_range:mg "range" = none
  b_sorted:mg "sorted" = none
  b_tuple:mg "tuple" = none
  b_zip:mg "zip" = none
  c_MOST_HOUSES_OF_BOOK:∃ t,mg "MOST_HOUSES_OF_BOOK" = some (.int 9 t)
section
variable {P:Program} {w:World} {K:PySem.W.Frag} {mg:Str->Option Value} {base:Heap}
end
section
variable {P:Program} {w:World} {K:PySem.W.Frag} {mg:Str->Option Value} {base:Heap}
def m_is_whole:MS:=(mRet (mAnd (mIsI "int" (Q5 0)) (mNot (mIsI "bool" (Q5 0)))))
def F_is_whole:FN:=callF m_is_whole 1
theorem sc_is_whole:FnScope ["thing"] ["thing"] (Q7 s_is_whole):=⟨rfl,rfl,rfl,by decide +kernel,rfl,by decide +kernel,by decide +kernel⟩
theorem ok_is_whole {f:Addr} {fd:FuncData} (F:Fun K "is_whole" "is_whole" s_is_whole f fd) (T:Txt mg)   : FnOk P w K mg base (CXD P w) 1 f fd ["thing"] (spF mg 1 F_is_whole):=by
  refine fun_ok2 (k:=0) (m:=m_is_whole) F sc_is_whole rfl rfl rfl fun cdv A outer s H E hr=>?_
  exact (sb_one (ss_ret (se_and (se_isi (T := "int") (by decide) (Q2 0) rfl T.b_isinstance rfl T.b_int boot_int) (se_one (se_not (se_isi (T := "bool") (by decide) (Q2 0) rfl T.b_isinstance rfl T.b_bool boot_bool))))))
def m_is_between:MS:=(mRet (mAnd (mCallF 1 F_is_whole (Q4 (Q5 0) Qe)) (mChain (oI fun a b=>.bl (decide (a<=b))) (oI fun a b=>.bl (decide (a<=b))) (Q5 1) (Q5 0) (Q5 2))))
def F_is_between:FN:=callF m_is_between 3
theorem sc_is_between:FnScope ["thing", "least", "most"] ["thing", "least", "most"] (Q7 s_is_between):=⟨rfl,rfl,rfl,by decide +kernel,rfl,by decide +kernel,by decide +kernel⟩
theorem ok_is_between {f:Addr} {fd:FuncData} (F:Fun K "is_between" "is_between" s_is_between f fd) (T:Txt mg)  (D_is_whole:DefS P w K mg base 1 "is_whole" 1 F_is_whole):FnOk P w K mg base (CXD P w) 2 f fd ["thing", "least", "most"] (spF mg 3 F_is_between):=by
  refine fun_ok2 (k:=1) (m:=m_is_between) F sc_is_between rfl rfl rfl fun cdv A outer s H E hr=>?_
  exact (sb_one (ss_ret (se_and (se_call D_is_whole (hr.mono (by decide)) Qd rfl (Q1 (Q2 0) Q6)) (se_one (se_chain os_le os_le (Q2 1) (Q2 0) (Q2 2))))))
def e_is_rising_1:ME:=(mOp oLt (Q5 0) (Q5 1))
def m_is_rising:MS:=(mRet (mCall (cBls fun ns=>.bl (ns.all id)) (Q4 (mVal (mCompN [none,none] (gaTup (gaCons (gaName 0) (gaCons (gaName 1) gaNil))) (mZip (Q4 (Q5 0) (Q4 (mSl (Q5 0) (mPart (mC (.int 1))) mNoPart) Qe))) mTrue e_is_rising_1)) Qe)))
def F_is_rising:FN:=callF m_is_rising 1
theorem sc_is_rising:FnScope ["things"] ["things"] (Q7 s_is_rising):=⟨rfl,rfl,rfl,by decide +kernel,rfl,by decide +kernel,by decide +kernel⟩
theorem ok_is_rising {f:Addr} {fd:FuncData} (F:Fun K "is_rising" "is_rising" s_is_rising f fd) (T:Txt mg)   : FnOk P w K mg base (CXD P w) 1 f fd ["things"] (spF mg 1 F_is_rising):=by
  refine fun_ok2 (k:=0) (m:=m_is_rising) F sc_is_rising rfl rfl rfl fun cdv A outer s H E hr=>?_
  exact (sb_one (ss_ret (se_callB (cs_all rfl) rfl T.b_all boot_all (Q1 (se_val (sn_comp [none,none] ["one", "other"] rfl (si_zip rfl T.b_zip (Q1 (Q2 0) (Q1 (se_slice (Q2 0) (so_some Q9) so_none) Q6))) (fun _ _ _ _ _=>(sg_tup rfl (sgs_cons (sg_name (i:=0) (show (["one", "other"]:List Str).Nodup by decide +kernel)) (sgs_cons (sg_name (i:=1) (show (["one", "other"]:List Str).Nodup by decide +kernel)) sgs_nil)))) (fun _ _ _ _ _=>(se_cmp (os_lt hr.units) (Q2 0) (Q2 1))) (fun _ _ _ _ _=>sts_nil) (free_tup (free_cons (free_cons free_nil))))) Q6))))
def m_is_sized_tuple:MS:=(mRet (mAnd (mIsI "tuple" (Q5 0)) (mChain (oI fun a b=>.bl (decide (a<=b))) (oI fun a b=>.bl (decide (a<=b))) (Q5 1) (mCall cLen (Q4 (Q5 0) Qe)) (Q5 2))))
def F_is_sized_tuple:FN:=callF m_is_sized_tuple 3
theorem sc_is_sized_tuple:FnScope ["thing", "least", "most"] ["thing", "least", "most"] (Q7 s_is_sized_tuple):=⟨rfl,rfl,rfl,by decide +kernel,rfl,by decide +kernel,by decide +kernel⟩
theorem ok_is_sized_tuple {f:Addr} {fd:FuncData} (F:Fun K "is_sized_tuple" "is_sized_tuple" s_is_sized_tuple f fd) (T:Txt mg)   : FnOk P w K mg base (CXD P w) 1 f fd ["thing", "least", "most"] (spF mg 3 F_is_sized_tuple):=by
  refine fun_ok2 (k:=0) (m:=m_is_sized_tuple) F sc_is_sized_tuple rfl rfl rfl fun cdv A outer s H E hr=>?_
  exact (sb_one (ss_ret (se_and (se_isi (T := "tuple") (by decide) (Q2 0) rfl T.b_isinstance rfl T.b_tuple boot_tuple) (se_one (se_chain os_le os_le (Q2 1) (se_callB cs_len rfl T.b_len PySem.boot_len (Q1 (Q2 0) Q6)) (Q2 2))))))
def e_are_rising_houses_1:ME:=(mCallF 3 F_is_between (Q4 (Q5 0) (Q4 (mC (.int 0)) (Q4 (mOp (oI fun a b=>.int (a - b)) (Q5 1) (mC (.int 1))) Qe))))
def m_are_rising_houses : MS := (mSeqS (mIfS (tNotM (toB (mIsI "tuple" (Q5 1)))) (mRet (mC (.bl false))) mNext)
    (mRet (mAnd (mCall (cBls fun ns=>.bl (ns.all id)) (Q4 (mVal (mCompN [none,some 0] (gaName 0) (mSeq (Q5 1)) mTrue e_are_rising_houses_1)) Qe)) (mCallF 1 F_is_rising (Q4 (Q5 1) Qe)))))
def Qf:FN:=callF m_are_rising_houses 2
theorem sc_are_rising_houses:FnScope ["n", "thing"] ["n", "thing"] (Q7 s_are_rising_houses):=⟨rfl,rfl,rfl,by decide +kernel,rfl,by decide +kernel,by decide +kernel⟩
theorem ok_are_rising_houses {f:Addr} {fd:FuncData} (F:Fun K "are_rising_houses" "are_rising_houses" s_are_rising_houses f fd) (T:Txt mg)  (D_is_between:DefS P w K mg base 2 "is_between" 3 F_is_between) (D_is_rising:DefS P w K mg base 1 "is_rising" 1 F_is_rising):FnOk P w K mg base (CXD P w) 3 f fd ["n", "thing"] (spF mg 2 Qf):=by
  refine fun_ok2 (k:=2) (m:=m_are_rising_houses) F sc_are_rising_houses rfl rfl rfl fun cdv A outer s H E hr=>?_
  exact (Qa (ss_if (st_not (st_val (se_isi (T := "tuple") (by decide) (Q2 1) rfl T.b_isinstance rfl T.b_tuple boot_tuple))) (sb_one (ss_ret se_bl)) sb_nil)
    (sb_one (ss_ret (se_and (se_callB (cs_all rfl) rfl T.b_all boot_all (Q1 (se_val (sn_comp [none,some 0] ["house", "n"] rfl (si_seq (Q2 1)) (fun _ _ _ _ _=>(sg_name (i:=0) (show (["house", "n"]:List Str).Nodup by decide +kernel))) (fun _ _ _ _ _=>(se_call D_is_between (hr.mono (by decide)) pass00D rfl (Q1 (Q2 0) (Q1 Q9 (Q1 (se_op os_sub (Q2 1) Q9) Q6))))) (fun _ _ _ _ _=>sts_nil) free_name)) Q6)) (se_one (se_call D_is_rising (hr.mono (by decide)) Qd rfl (Q1 (Q2 1) Q6)))))))
def m_is_group:MS:=(mRet (mAnd (mCallF 2 Qf (Q4 (Q5 0) (Q4 (Q5 1) Qe))) (mOp (oI fun a b=>.bl (decide (b < a))) (mCall cLen (Q4 (Q5 1) Qe)) (mC (.int 0)))))
def F_is_group:FN:=callF m_is_group 2
theorem sc_is_group:FnScope ["n", "thing"] ["n", "thing"] (Q7 s_is_group):=⟨rfl,rfl,rfl,by decide +kernel,rfl,by decide +kernel,by decide +kernel⟩
theorem ok_is_group {f:Addr} {fd:FuncData} (F:Fun K "is_group" "is_group" s_is_group f fd) (T:Txt mg)  (D_are_rising_houses:DefS P w K mg base 3 "are_rising_houses" 2 Qf):FnOk P w K mg base (CXD P w) 4 f fd ["n", "thing"] (spF mg 2 F_is_group):=by
  refine fun_ok2 (k:=3) (m:=m_is_group) F sc_is_group rfl rfl rfl fun cdv A outer s H E hr=>?_
  exact (sb_one (ss_ret (se_and (se_call D_are_rising_houses (hr.mono (by decide)) Qd rfl (Q1 (Q2 0) (Q1 (Q2 1) Q6))) (se_one (se_cmp os_gt (se_callB cs_len rfl T.b_len PySem.boot_len (Q1 (Q2 1) Q6)) Q9)))))
def e_are_sets_1:ME:=(mCallF 2 F_is_group (Q4 (Q5 1) (Q4 (Q5 0) Qe)))
def m_are_sets : MS := (mSeqS (mIfS (tOrM (tNotM (toB (mIsI "tuple" (Q5 1)))) (toB (mOp oEq (mCall cLen (Q4 (Q5 1) Qe)) (mC (.int 0))))) (mRet (mC (.bl false))) mNext)
    (mRet (mAnd (mCall (cBls fun ns=>.bl (ns.all id)) (Q4 (mVal (mCompN [none,some 0] (gaName 0) (mSeq (Q5 1)) mTrue e_are_sets_1)) Qe)) (mCallF 1 F_is_rising (Q4 (Q5 1) Qe)))))
def F_are_sets:FN:=callF m_are_sets 2
theorem sc_are_sets:FnScope ["n", "thing"] ["n", "thing"] (Q7 s_are_sets):=⟨rfl,rfl,rfl,by decide +kernel,rfl,by decide +kernel,by decide +kernel⟩
theorem ok_are_sets {f:Addr} {fd:FuncData} (F:Fun K "are_sets" "are_sets" s_are_sets f fd) (T:Txt mg)  (D_is_group:DefS P w K mg base 4 "is_group" 2 F_is_group) (D_is_rising:DefS P w K mg base 1 "is_rising" 1 F_is_rising):FnOk P w K mg base (CXD P w) 5 f fd ["n", "thing"] (spF mg 2 F_are_sets):=by
  refine fun_ok2 (k:=4) (m:=m_are_sets) F sc_are_sets rfl rfl rfl fun cdv A outer s H E hr=>?_
  exact (Qa (ss_if (SimW.t (sw_or (st_not (st_val (se_isi (T := "tuple") (by decide) (Q2 1) rfl T.b_isinstance rfl T.b_tuple boot_tuple))) (sw_or1 (st_cmp (os_eq hr.units) (se_callB cs_len rfl T.b_len PySem.boot_len (Q1 (Q2 1) Q6)) Q9)))) (sb_one (ss_ret se_bl)) sb_nil)
    (sb_one (ss_ret (se_and (se_callB (cs_all rfl) rfl T.b_all boot_all (Q1 (se_val (sn_comp [none,some 0] ["part", "n"] rfl (si_seq (Q2 1)) (fun _ _ _ _ _=>(sg_name (i:=0) (show (["part", "n"]:List Str).Nodup by decide +kernel))) (fun _ _ _ _ _=>(se_call D_is_group (hr.mono (by decide)) pass00D rfl (Q1 (Q2 1) (Q1 (Q2 0) Q6)))) (fun _ _ _ _ _=>sts_nil) free_name)) Q6)) (se_one (se_call D_is_rising (hr.mono (by decide)) Qd rfl (Q1 (Q2 1) Q6)))))))
def m_is_book : MS := (mSeqS (mIfS (tNotM (toB (mCallF 3 F_is_sized_tuple (Q4 (Q5 0) (Q4 (mC (.int 2)) (Q4 (mC (.int 2)) Qe)))))) (mRet (mC (.bl false))) mNext)
    (mRet (mAnd (mCallF 3 F_is_between (Q4 (mOp oIx (Q5 0) (mC (.int 0))) (Q4 (mC (.int 1)) (Q4 (mC (.int 9)) Qe)))) (mCallF 2 F_are_sets (Q4 (mOp oIx (Q5 0) (mC (.int 0))) (Q4 (mOp oIx (Q5 0) (mC (.int 1))) Qe))))))
def F_is_book:FN:=callF m_is_book 1
theorem sc_is_book:FnScope ["thing"] ["thing"] (Q7 s_is_book):=⟨rfl,rfl,rfl,by decide +kernel,rfl,by decide +kernel,by decide +kernel⟩
theorem ok_is_book {f:Addr} {fd:FuncData} (F:Fun K "is_book" "is_book" s_is_book f fd) (T:Txt mg)  (D_is_sized_tuple:DefS P w K mg base 1 "is_sized_tuple" 3 F_is_sized_tuple) (D_is_between:DefS P w K mg base 2 "is_between" 3 F_is_between) (D_are_sets:DefS P w K mg base 5 "are_sets" 2 F_are_sets):FnOk P w K mg base (CXD P w) 6 f fd ["thing"] (spF mg 1 F_is_book):=by
  refine fun_ok2 (k:=5) (m:=m_is_book) F sc_is_book rfl rfl rfl fun cdv A outer s H E hr=>?_
  exact (Qa (ss_if (st_not (st_val (se_call D_is_sized_tuple (hr.mono (by decide)) Qd rfl (Q1 (Q2 0) (Q1 Q9 (Q1 Q9 Q6)))))) (sb_one (ss_ret se_bl)) sb_nil)
    (sb_one (ss_ret (se_and (se_call D_is_between (hr.mono (by decide)) Qd rfl (Q1 (se_ix (Q2 0) Q9) (Q1 Q9 (Q1 (se_gint rfl T.c_MOST_HOUSES_OF_BOOK.choose_spec) Q6)))) (se_one (se_call D_are_sets (hr.mono (by decide)) Qd rfl (Q1 (se_ix (Q2 0) Q9) (Q1 (se_ix (Q2 0) Q9) Q6))))))))
def m_need_book:MS:=(mIfS (tNotM (toB (mCallF 1 F_is_book (Q4 (Q5 0) Qe)))) (mRaise "NoBook" (mC (.str "this is no book"))) mNext)
def F_need_book:FN:=callF m_need_book 1
theorem sc_need_book:FnScope ["book"] ["book"] (Q7 s_need_book):=⟨rfl,rfl,rfl,by decide +kernel,rfl,by decide +kernel,by decide +kernel⟩
theorem ok_need_book {f:Addr} {fd:FuncData} (F:Fun K "need_book" "need_book" s_need_book f fd) (T:Txt mg) (C_NoBook:∃ C,mg "NoBook" = some (.ref C)/\PySem.W.excIn K C bmVE "ValueError.__new__" = true) (D_is_book:DefS P w K mg base 6 "is_book" 1 F_is_book):FnOk P w K mg base (CXD P w) 7 f fd ["book"] (spF mg 1 F_need_book):=by
  refine fun_ok2 (k:=6) (m:=m_need_book) F sc_need_book rfl rfl rfl fun cdv A outer s H E hr=>?_
  exact (sb_one (ss_if (st_not (st_val (se_call D_is_book (hr.mono (by decide)) Qd rfl (Q1 (Q2 0) Q6)))) (sb_one (ss_raise rfl raiseDok rfl C_NoBook.choose_spec.1 C_NoBook.choose_spec.2 se_str)) sb_nil))
def m_need_gone : MS := (mSeqS (mExpr (mCallF 1 F_need_book (Q4 (Q5 0) Qe)))
    (mIfS (tNotM (toB (mCallF 2 Qf (Q4 (mOp oIx (Q5 0) (mC (.int 0))) (Q4 (Q5 1) Qe))))) (mRaise "NoHouse" (mC (.str "no rising houses of this book"))) mNext))
def F_need_gone:FN:=callF m_need_gone 2
theorem sc_need_gone:FnScope ["book", "gone"] ["book", "gone"] (Q7 s_need_gone):=⟨rfl,rfl,rfl,by decide +kernel,rfl,by decide +kernel,by decide +kernel⟩
theorem ok_need_gone {f:Addr} {fd:FuncData} (F:Fun K "need_gone" "need_gone" s_need_gone f fd) (T:Txt mg) (C_NoHouse:∃ C,mg "NoHouse" = some (.ref C)/\PySem.W.excIn K C bmVE "ValueError.__new__" = true) (D_need_book:DefS P w K mg base 7 "need_book" 1 F_need_book) (D_are_rising_houses:DefS P w K mg base 3 "are_rising_houses" 2 Qf):FnOk P w K mg base (CXD P w) 8 f fd ["book", "gone"] (spF mg 2 F_need_gone):=by
  refine fun_ok2 (k:=7) (m:=m_need_gone) F sc_need_gone rfl rfl rfl fun cdv A outer s H E hr=>?_
  exact (Qa (ss_expr (se_call D_need_book (hr.mono (by decide)) Qd rfl (Q1 (Q2 0) Q6)))
    (sb_one (ss_if (st_not (st_val (se_call D_are_rising_houses (hr.mono (by decide)) Qd rfl (Q1 (se_ix (Q2 0) Q9) (Q1 (Q2 1) Q6))))) (sb_one (ss_raise rfl raiseDok rfl C_NoHouse.choose_spec.1 C_NoHouse.choose_spec.2 se_str)) sb_nil)))
def m_need_pool_of_book : MS := (mSeqS (mExpr (mCallF 1 F_need_book (Q4 (Q5 0) Qe)))
    (mIfS (tNotM (toB (mCallF 2 F_is_group (Q4 (mOp oIx (Q5 0) (mC (.int 0))) (Q4 (Q5 1) Qe))))) (mRaise "NoHouse" (mC (.str "no pool of houses of this book"))) mNext))
def F_need_pool_of_book:FN:=callF m_need_pool_of_book 2
theorem sc_need_pool_of_book:FnScope ["book", "pool"] ["book", "pool"] (Q7 s_need_pool_of_book):=⟨rfl,rfl,rfl,by decide +kernel,rfl,by decide +kernel,by decide +kernel⟩
theorem ok_need_pool_of_book {f:Addr} {fd:FuncData} (F:Fun K "need_pool_of_book" "need_pool_of_book" s_need_pool_of_book f fd) (T:Txt mg) (C_NoHouse:∃ C,mg "NoHouse" = some (.ref C)/\PySem.W.excIn K C bmVE "ValueError.__new__" = true) (D_need_book:DefS P w K mg base 7 "need_book" 1 F_need_book) (D_is_group:DefS P w K mg base 4 "is_group" 2 F_is_group):FnOk P w K mg base (CXD P w) 8 f fd ["book", "pool"] (spF mg 2 F_need_pool_of_book):=by
  refine fun_ok2 (k:=7) (m:=m_need_pool_of_book) F sc_need_pool_of_book rfl rfl rfl fun cdv A outer s H E hr=>?_
  exact (Qa (ss_expr (se_call D_need_book (hr.mono (by decide)) Qd rfl (Q1 (Q2 0) Q6)))
    (sb_one (ss_if (st_not (st_val (se_call D_is_group (hr.mono (by decide)) Qd rfl (Q1 (se_ix (Q2 0) Q9) (Q1 (Q2 1) Q6))))) (sb_one (ss_raise rfl raiseDok rfl C_NoHouse.choose_spec.1 C_NoHouse.choose_spec.2 se_str)) sb_nil)))
def e_meets_1:ME:=(mOp (oIn false) (Q5 0) (Q5 1))
def m_meets:MS:=(mRet (mCall (cBls fun ns=>.bl (ns.any id)) (Q4 (mVal (mCompN [none,some 1] (gaName 0) (mSeq (Q5 0)) mTrue e_meets_1)) Qe)))
def F_meets:FN:=callF m_meets 2
theorem sc_meets:FnScope ["houses", "one"] ["houses", "one"] (Q7 s_meets):=⟨rfl,rfl,rfl,by decide +kernel,rfl,by decide +kernel,by decide +kernel⟩
theorem ok_meets {f:Addr} {fd:FuncData} (F:Fun K "meets" "meets" s_meets f fd) (T:Txt mg)   : FnOk P w K mg base (CXD P w) 1 f fd ["houses", "one"] (spF mg 2 F_meets):=by
  refine fun_ok2 (k:=0) (m:=m_meets) F sc_meets rfl rfl rfl fun cdv A outer s H E hr=>?_
  exact (sb_one (ss_ret (se_callB (cs_any rfl) rfl T.b_any boot_any (Q1 (se_val (sn_comp [none,some 1] ["house", "one"] rfl (si_seq (Q2 0)) (fun _ _ _ _ _=>(sg_name (i:=0) (show (["house", "one"]:List Str).Nodup by decide +kernel))) (fun _ _ _ _ _=>(se_cmp (os_in hr.units) (Q2 0) (Q2 1))) (fun _ _ _ _ _=>sts_nil) free_name)) Q6))))
def b_set_without_1:MS:=(mIfS (tNotM (toB (mCallF 2 F_meets (Q4 (Q5 1) (Q4 (Q5 2) Qe))))) (mRet (Q5 2)) mNext)
def m_set_without : MS := (mSeqS (mFor (gaName 2) (mSeq (mOp oIx (Q5 0) (mC (.int 1)))) b_set_without_1)
    (mRet (mC .non)))
def F_set_without:FN:=callF m_set_without 3
theorem sc_set_without:FnScope ["book", "houses", "one"] ["book", "houses"] (Q7 s_set_without):=⟨rfl,rfl,rfl,by decide +kernel,rfl,by decide +kernel,by decide +kernel⟩
theorem ok_set_without {f:Addr} {fd:FuncData} (F:Fun K "set_without" "set_without" s_set_without f fd) (T:Txt mg)  (D_meets:DefS P w K mg base 1 "meets" 2 F_meets):FnOk P w K mg base (CXD P w) 2 f fd ["book", "houses"] (spF mg 2 F_set_without):=by
  refine fun_ok2 (k:=1) (m:=m_set_without) F sc_set_without rfl rfl rfl fun cdv A outer s H E hr=>?_
  exact (Qa (ss_for PassesOwn.leaving rfl (si_seq (se_ix (Q2 0) Q9)) (sg_name (i:=2) sc_set_without.nd) (sb_one (ss_if (st_not (st_val (se_call D_meets (hr.mono (by decide)) Qd rfl (Q1 (Q2 1) (Q1 (Q2 2) Q6))))) (sb_one (ss_ret (Q2 2))) sb_nil)))
    (sb_one (ss_ret se_non)))
def e_set_within_1:ME:=(mOp (oIn false) (Q5 0) (Q5 1))
def b_set_within_1:MS:=(mIfS (toB (mCall (cBls fun ns=>.bl (ns.all id)) (Q4 (mVal (mCompN [none,some 1] (gaName 0) (mSeq (Q5 2)) mTrue e_set_within_1)) Qe))) (mRet (Q5 2)) mNext)
def m_set_within : MS := (mSeqS (mFor (gaName 2) (mSeq (mOp oIx (Q5 0) (mC (.int 1)))) b_set_within_1)
    (mRet (mC .non)))
def F_set_within:FN:=callF m_set_within 3
theorem sc_set_within:FnScope ["book", "houses", "one"] ["book", "houses"] (Q7 s_set_within):=⟨rfl,rfl,rfl,by decide +kernel,rfl,by decide +kernel,by decide +kernel⟩
theorem ok_set_within {f:Addr} {fd:FuncData} (F:Fun K "set_within" "set_within" s_set_within f fd) (T:Txt mg)   : FnOk P w K mg base (CXD P w) 1 f fd ["book", "houses"] (spF mg 2 F_set_within):=by
  refine fun_ok2 (k:=0) (m:=m_set_within) F sc_set_within rfl rfl rfl fun cdv A outer s H E hr=>?_
  exact (Qa (ss_for PassesOwn.leaving rfl (si_seq (se_ix (Q2 0) Q9)) (sg_name (i:=2) sc_set_within.nd) (sb_one (ss_if (st_val (se_callB (cs_all rfl) rfl T.b_all boot_all (Q1 (se_val (sn_comp [none,some 1] ["house", "houses"] rfl (si_seq (Q2 2)) (fun _ _ _ _ _=>(sg_name (i:=0) (show (["house", "houses"]:List Str).Nodup by decide +kernel))) (fun _ _ _ _ _=>(se_cmp (os_in hr.units) (Q2 0) (Q2 1))) (fun _ _ _ _ _=>sts_nil) free_name)) Q6))) (sb_one (ss_ret (Q2 2))) sb_nil)))
    (sb_one (ss_ret se_non)))
def m_free_set : MS := (mSeqS (mExpr (mCallF 2 F_need_gone (Q4 (Q5 0) (Q4 (Q5 1) Qe))))
    (mRet (mCallF 2 F_set_without (Q4 (Q5 0) (Q4 (Q5 1) Qe)))))
def F_free_set:FN:=callF m_free_set 2
theorem sc_free_set:FnScope ["book", "gone"] ["book", "gone"] (Q7 s_free_set):=⟨rfl,rfl,rfl,by decide +kernel,rfl,by decide +kernel,by decide +kernel⟩
theorem ok_free_set {f:Addr} {fd:FuncData} (F:Fun K "free_set" "free_set" s_free_set f fd) (T:Txt mg)  (D_need_gone:DefS P w K mg base 8 "need_gone" 2 F_need_gone) (D_set_without:DefS P w K mg base 2 "set_without" 2 F_set_without):FnOk P w K mg base (CXD P w) 9 f fd ["book", "gone"] (spF mg 2 F_free_set):=by
  refine fun_ok2 (k:=8) (m:=m_free_set) F sc_free_set rfl rfl rfl fun cdv A outer s H E hr=>?_
  exact (Qa (ss_expr (se_call D_need_gone (hr.mono (by decide)) Qd rfl (Q1 (Q2 0) (Q1 (Q2 1) Q6))))
    (sb_one (ss_ret (se_call D_set_without (hr.mono (by decide)) Qd rfl (Q1 (Q2 0) (Q1 (Q2 1) Q6))))))
def m_unmet_set : MS := (mSeqS (mExpr (mCallF 2 F_need_pool_of_book (Q4 (Q5 0) (Q4 (Q5 1) Qe))))
    (mRet (mCallF 2 F_set_without (Q4 (Q5 0) (Q4 (Q5 1) Qe)))))
def F_unmet_set:FN:=callF m_unmet_set 2
theorem sc_unmet_set:FnScope ["book", "pool"] ["book", "pool"] (Q7 s_unmet_set):=⟨rfl,rfl,rfl,by decide +kernel,rfl,by decide +kernel,by decide +kernel⟩
theorem ok_unmet_set {f:Addr} {fd:FuncData} (F:Fun K "unmet_set" "unmet_set" s_unmet_set f fd) (T:Txt mg)  (D_need_pool_of_book:DefS P w K mg base 8 "need_pool_of_book" 2 F_need_pool_of_book) (D_set_without:DefS P w K mg base 2 "set_without" 2 F_set_without):FnOk P w K mg base (CXD P w) 9 f fd ["book", "pool"] (spF mg 2 F_unmet_set):=by
  refine fun_ok2 (k:=8) (m:=m_unmet_set) F sc_unmet_set rfl rfl rfl fun cdv A outer s H E hr=>?_
  exact (Qa (ss_expr (se_call D_need_pool_of_book (hr.mono (by decide)) Qd rfl (Q1 (Q2 0) (Q1 (Q2 1) Q6))))
    (sb_one (ss_ret (se_call D_set_without (hr.mono (by decide)) Qd rfl (Q1 (Q2 0) (Q1 (Q2 1) Q6))))))
def m_is_stuck : MS := (mSeqS (mExpr (mCallF 2 F_need_gone (Q4 (Q5 0) (Q4 (Q5 1) Qe))))
    (mRet (mOp oIs (mCallF 2 F_set_without (Q4 (Q5 0) (Q4 (Q5 1) Qe))) (mC .non))))
def F_is_stuck:FN:=callF m_is_stuck 2
theorem sc_is_stuck:FnScope ["book", "gone"] ["book", "gone"] (Q7 s_is_stuck):=⟨rfl,rfl,rfl,by decide +kernel,rfl,by decide +kernel,by decide +kernel⟩
theorem ok_is_stuck {f:Addr} {fd:FuncData} (F:Fun K "is_stuck" "is_stuck" s_is_stuck f fd) (T:Txt mg)  (D_need_gone:DefS P w K mg base 8 "need_gone" 2 F_need_gone) (D_set_without:DefS P w K mg base 2 "set_without" 2 F_set_without):FnOk P w K mg base (CXD P w) 9 f fd ["book", "gone"] (spF mg 2 F_is_stuck):=by
  refine fun_ok2 (k:=8) (m:=m_is_stuck) F sc_is_stuck rfl rfl rfl fun cdv A outer s H E hr=>?_
  exact (Qa (ss_expr (se_call D_need_gone (hr.mono (by decide)) Qd rfl (Q1 (Q2 0) (Q1 (Q2 1) Q6))))
    (sb_one (ss_ret (se_cmp os_is (se_call D_set_without (hr.mono (by decide)) Qd rfl (Q1 (Q2 0) (Q1 (Q2 1) Q6))) se_non))))
def e_is_blind_1:ME:=(mOp (oIn false) (Q5 0) (Q5 1))
def m_is_blind : MS := (mSeqS (mExpr (mCallF 2 F_need_gone (Q4 (Q5 0) (Q4 (Q5 1) Qe))))
    (mRet (mAnd (mOp (oIn false) (Q5 2) (mOp oIx (Q5 0) (mC (.int 1)))) (mCall (cBls fun ns=>.bl (ns.all id)) (Q4 (mVal (mCompN [none,some 1] (gaName 0) (mSeq (Q5 2)) mTrue e_is_blind_1)) Qe)))))
def F_is_blind:FN:=callF m_is_blind 3
theorem sc_is_blind:FnScope ["book", "gone", "one"] ["book", "gone", "one"] (Q7 s_is_blind):=⟨rfl,rfl,rfl,by decide +kernel,rfl,by decide +kernel,by decide +kernel⟩
theorem ok_is_blind {f:Addr} {fd:FuncData} (F:Fun K "is_blind" "is_blind" s_is_blind f fd) (T:Txt mg)  (D_need_gone:DefS P w K mg base 8 "need_gone" 2 F_need_gone):FnOk P w K mg base (CXD P w) 9 f fd ["book", "gone", "one"] (spF mg 3 F_is_blind):=by
  refine fun_ok2 (k:=8) (m:=m_is_blind) F sc_is_blind rfl rfl rfl fun cdv A outer s H E hr=>?_
  exact (Qa (ss_expr (se_call D_need_gone (hr.mono (by decide)) Qd rfl (Q1 (Q2 0) (Q1 (Q2 1) Q6))))
    (sb_one (ss_ret (se_and (se_cmp (os_in hr.units) (Q2 2) (se_ix (Q2 0) Q9)) (se_one (se_callB (cs_all rfl) rfl T.b_all boot_all (Q1 (se_val (sn_comp [none,some 1] ["house", "gone"] rfl (si_seq (Q2 2)) (fun _ _ _ _ _=>(sg_name (i:=0) (show (["house", "gone"]:List Str).Nodup by decide +kernel))) (fun _ _ _ _ _=>(se_cmp (os_in hr.units) (Q2 0) (Q2 1))) (fun _ _ _ _ _=>sts_nil) free_name)) Q6)))))))
def e_groups_of_1:ME:=(mOp oAdd (Q5 1) (mTup (Q4 (Q5 0) Qe)))
def t_groups_of_1:MT:=(tOrM (toB (mOp oEq (mCall cLen (Q4 (Q5 1) Qe)) (mC (.int 0)))) (toB (mOp (oI fun a b=>.bl (decide (b < a))) (Q5 0) (mOp oIx (Q5 1) (mNeg (mC (.int 1)))))))
def b_groups_of_2:MS:=(mExpr (mBM mtExtend (Q5 4) (Q4 (mVal (mCompN [none,some 5] (gaName 0) (mRange1 (Q4 (Q5 0) Qe)) t_groups_of_1 e_groups_of_1)) Qe)))
def b_groups_of_1 : MS := (mSeqS (mSet 4 (mTrk (mLstN Qe)))
    (mSeqS (mFor (gaName 5) (mSeq (Q5 2)) b_groups_of_2)
    (mSet 2 (Q5 4))))
def m_groups_of : MS := (mSeqS (mSet 2 (mLst (Q4 (mTup Qe) Qe)))
    (mSeqS (mFor (gaName 3) (mRange1 (Q4 (Q5 1) Qe)) b_groups_of_1)
    (mRet (Q5 2))))
def F_groups_of:FN:=callF m_groups_of 6
theorem sc_groups_of:FnScope ["n", "size", "groups", "times", "longer", "group"] ["n", "size"] (Q7 s_groups_of):=⟨rfl,rfl,rfl,by decide +kernel,rfl,by decide +kernel,by decide +kernel⟩
theorem ok_groups_of {f:Addr} {fd:FuncData} (F:Fun K "groups_of" "groups_of" s_groups_of f fd) (T:Txt mg)   : FnOk P w K mg base (CXD P w) 1 f fd ["n", "size"] (spF mg 2 F_groups_of):=by
  refine fun_ok2 (k:=0) (m:=m_groups_of) F sc_groups_of rfl rfl rfl fun cdv A outer s H E hr=>?_
  exact (Qa (ss_set 2 sc_groups_of.nd (se_lst (Q1 (se_tup Q6) Q6)))
    (Qa (ss_for PassesOwn.leaving rfl (si_range1 rfl T.b_range (Q1 (Q2 1) Q6)) (sg_name (i:=3) sc_groups_of.nd) (Qa (ss_set 4 sc_groups_of.nd (se_trk (sn_lst Q6)))
    (Qa (ss_for PassesOwn.leaving rfl (si_seq (Q2 2)) (sg_name (i:=5) sc_groups_of.nd) (sb_one (ss_expr (se_extend (Q2 4) (Q1 (se_val (sn_comp [none,some 5] ["house", "group"] rfl (si_range1 rfl T.b_range (Q1 (Q2 0) Q6)) (fun _ _ _ _ _=>(sg_name (i:=0) (show (["house", "group"]:List Str).Nodup by decide +kernel))) (fun _ _ _ _ _=>(se_op os_add (Q2 1) (se_tup (Q1 (Q2 0) Q6)))) (fun _ _ _ _ _=>(sts_one (SimW.t (sw_or (st_cmp (os_eq hr.units) (se_callB cs_len rfl T.b_len PySem.boot_len (Q1 (Q2 1) Q6)) Q9) (sw_or1 (st_cmp os_gt (Q2 0) (se_ix (Q2 1) (se_neg Q9)))))))) free_name)) Q6)))))
    (sb_one (ss_set 2 sc_groups_of.nd (Q2 4))))))
    (sb_one (ss_ret (Q2 2)))))
def b_paper_of_1 : MS := (mSeqS (mIfS (toB (mOp oIs (mCallF 2 F_set_without (Q4 (Q5 0) (Q4 (Q5 2) Qe))) (mC .non))) (mRet (mTup (Q4 (mC (.str "stuck")) (Q4 (Q5 2) Qe)))) mNext)
    (mSeqS (mSet 3 (mCallF 2 F_set_within (Q4 (Q5 0) (Q4 (Q5 2) Qe))))
    (mIfS (toB (mOp oIsNot (Q5 3) (mC .non))) (mRet (mTup (Q4 (mC (.str "blind")) (Q4 (Q5 2) (Q4 (Q5 3) Qe))))) mNext)))
def m_paper_of : MS := (mSeqS (mFor (gaName 2) (mSeq (mCallF 2 F_groups_of (Q4 (mOp oIx (Q5 0) (mC (.int 0))) (Q4 (Q5 1) Qe)))) b_paper_of_1)
    (mRet (mTup (Q4 (mC (.str "bears")) (Q4 (Q5 1) Qe)))))
def F_paper_of:FN:=callF m_paper_of 4
theorem sc_paper_of:FnScope ["book", "f", "gone", "unmet"] ["book", "f"] (Q7 s_paper_of):=⟨rfl,rfl,rfl,by decide +kernel,rfl,by decide +kernel,by decide +kernel⟩
theorem ok_paper_of {f:Addr} {fd:FuncData} (F:Fun K "paper_of" "paper_of" s_paper_of f fd) (T:Txt mg)  (D_groups_of:DefS P w K mg base 1 "groups_of" 2 F_groups_of) (D_set_without:DefS P w K mg base 2 "set_without" 2 F_set_without) (D_set_within:DefS P w K mg base 1 "set_within" 2 F_set_within):FnOk P w K mg base (CXD P w) 3 f fd ["book", "f"] (spF mg 2 F_paper_of):=by
  refine fun_ok2 (k:=2) (m:=m_paper_of) F sc_paper_of rfl rfl rfl fun cdv A outer s H E hr=>?_
  exact (Qa (ss_for PassesOwn.leaving rfl (si_seq (se_call D_groups_of (hr.mono (by decide)) Qd rfl (Q1 (se_ix (Q2 0) Q9) (Q1 (Q2 1) Q6)))) (sg_name (i:=2) sc_paper_of.nd) (Qa (ss_if (st_cmp os_is (se_call D_set_without (hr.mono (by decide)) Qd rfl (Q1 (Q2 0) (Q1 (Q2 2) Q6))) se_non) (sb_one (ss_ret (se_tup (Q1 se_str (Q1 (Q2 2) Q6))))) sb_nil)
    (Qa (ss_set 3 sc_paper_of.nd (se_call D_set_within (hr.mono (by decide)) Qd rfl (Q1 (Q2 0) (Q1 (Q2 2) Q6))))
    (sb_one (ss_if (st_cmp os_isnot (Q2 3) se_non) (sb_one (ss_ret (se_tup (Q1 se_str (Q1 (Q2 2) (Q1 (Q2 3) Q6)))))) sb_nil)))))
    (sb_one (ss_ret (se_tup (Q1 se_str (Q1 (Q2 1) Q6))))))
def m_bears : MS := (mSeqS (mExpr (mCallF 1 F_need_book (Q4 (Q5 0) Qe)))
    (mRet (mCallF 2 F_paper_of (Q4 (Q5 0) (Q4 (Q5 1) Qe)))))
def F_bears:FN:=callF m_bears 2
theorem sc_bears:FnScope ["book", "f"] ["book", "f"] (Q7 s_bears):=⟨rfl,rfl,rfl,by decide +kernel,rfl,by decide +kernel,by decide +kernel⟩
theorem ok_bears {f:Addr} {fd:FuncData} (F:Fun K "bears" "bears" s_bears f fd) (T:Txt mg)  (D_need_book:DefS P w K mg base 7 "need_book" 1 F_need_book) (D_paper_of:DefS P w K mg base 3 "paper_of" 2 F_paper_of):FnOk P w K mg base (CXD P w) 8 f fd ["book", "f"] (spF mg 2 F_bears):=by
  refine fun_ok2 (k:=7) (m:=m_bears) F sc_bears rfl rfl rfl fun cdv A outer s H E hr=>?_
  exact (Qa (ss_expr (se_call D_need_book (hr.mono (by decide)) Qd rfl (Q1 (Q2 0) Q6)))
    (sb_one (ss_ret (se_call D_paper_of (hr.mono (by decide)) Qd rfl (Q1 (Q2 0) (Q1 (Q2 1) Q6))))))
def b_most_borne_1:MS:=(mAug 1 (fun i j=>i + j) (mC (.int 1)))
def w_most_borne_1:MT:=(toB (mOp oEq (mOp oIx (mCallF 2 F_paper_of (Q4 (Q5 0) (Q4 (mOp oAdd (Q5 1) (mC (.int 1))) Qe))) (mC (.int 0))) (mC (.str "bears"))))
def m_most_borne : MS := (mSeqS (mExpr (mCallF 1 F_need_book (Q4 (Q5 0) Qe)))
    (mSeqS (mSet 1 (mC (.int 0)))
    (mSeqS (whileG w_most_borne_1 b_most_borne_1 100000)
    (mRet (mTup (Q4 (Q5 1) (Q4 (mCallF 2 F_paper_of (Q4 (Q5 0) (Q4 (mOp oAdd (Q5 1) (mC (.int 1))) Qe))) Qe)))))))
def F_most_borne:FN:=callF m_most_borne 2
theorem sc_most_borne:FnScope ["book", "f"] ["book"] (Q7 s_most_borne):=⟨rfl,rfl,rfl,by decide +kernel,rfl,by decide +kernel,by decide +kernel⟩
theorem ok_most_borne {f:Addr} {fd:FuncData} (F:Fun K "most_borne" "most_borne" s_most_borne f fd) (T:Txt mg)  (D_need_book:DefS P w K mg base 7 "need_book" 1 F_need_book) (D_paper_of:DefS P w K mg base 3 "paper_of" 2 F_paper_of):FnOk P w K mg base (CXD P w) 8 f fd ["book"] (spF mg 1 F_most_borne):=by
  refine fun_ok2 (k:=7) (m:=m_most_borne) F sc_most_borne rfl rfl rfl fun cdv A outer s H E hr=>?_
  exact (Qa (ss_expr (se_call D_need_book (hr.mono (by decide)) Qd rfl (Q1 (Q2 0) Q6)))
    (Qa (ss_set 1 sc_most_borne.nd Q9)
    (Qa (ss_while 100000 PassesOwn.leaving (st_cmp (os_eq hr.units) (se_ix (se_call D_paper_of (hr.mono (by decide)) Qd rfl (Q1 (Q2 0) (Q1 (se_op os_add (Q2 1) Q9) Q6))) Q9) se_str) (sb_one (ss_aug 1 ip_add sc_most_borne.nd Q9)))
    (sb_one (ss_ret (se_tup (Q1 (Q2 1) (Q1 (se_call D_paper_of (hr.mono (by decide)) Qd rfl (Q1 (Q2 0) (Q1 (se_op os_add (Q2 1) Q9) Q6))) Q6))))))))
def m__law_e_stirred : MS := (mSeqS (mIfS (toB (mOp (oI fun a b => .bl (decide (b <= a))) (Q5 0) (mOp oPow (mC (.int 10)) (mC (.int 18))))) (mRet (Q5 0)) mNext)
    (mSeqS (mSet 2 (mOp oMod (mOp oAdd (mOp oAdd (mOp oMul (mOp oMod (Q5 0) (mC (.int 998244353))) (mC (.int 51749))) (mOp oMul (Q5 1) (mC (.int 7919)))) (mC (.int 3))) (mC (.int 1000000007))))
    (mSeqS (mSet 3 (mOp oMod (mOp oAdd (mOp oAdd (mOp oAdd (mOp oMul (Q5 2) (Q5 2)) (mOp oMul (mC (.int 32749)) (Q5 2))) (Q5 1)) (mC (.int 5))) (mC (.int 2147483629))))
    (mSeqS (mSet 4 (mOp oMod (mOp oAdd (mOp oAdd (mOp oMul (Q5 3) (Q5 3)) (mOp oMul (mC (.int 61)) (Q5 1))) (Q5 2)) (mC (.int 2147483587))))
    (mRet (mOp oAdd (mOp oMul (Q5 3) (mC (.int 2147483587))) (Q5 4)))))))
def F__law_e_stirred:FN:=callF m__law_e_stirred 5
theorem sc__law_e_stirred:FnScope ["cell", "place", "first", "second", "third"] ["cell", "place"] (Q7 s__law_e_stirred):=⟨rfl,rfl,rfl,by decide +kernel,rfl,by decide +kernel,by decide +kernel⟩
theorem ok__law_e_stirred {f:Addr} {fd:FuncData} (F:Fun K "_law_e_stirred" "_law_e_stirred" s__law_e_stirred f fd) (T:Txt mg)   : FnOk P w K mg base (CXD P w) 1 f fd ["cell", "place"] (spF mg 2 F__law_e_stirred):=by
  refine fun_ok2 (k:=0) (m:=m__law_e_stirred) F sc__law_e_stirred rfl rfl rfl fun cdv A outer s H E hr=>?_
  exact (Qa (ss_if (st_cmp os_ge (Q2 0) (se_op os_pow Q9 Q9)) (sb_one (ss_ret (Q2 0))) sb_nil)
    (Qa (ss_set 2 sc__law_e_stirred.nd (se_op os_mod (se_op os_add (se_op os_add (se_op os_mul (se_op os_mod (Q2 0) Q9) Q9) (se_op os_mul (Q2 1) Q9)) Q9) Q9))
    (Qa (ss_set 3 sc__law_e_stirred.nd (se_op os_mod (se_op os_add (se_op os_add (se_op os_add (se_op os_mul (Q2 2) (Q2 2)) (se_op os_mul Q9 (Q2 2))) (Q2 1)) Q9) Q9))
    (Qa (ss_set 4 sc__law_e_stirred.nd (se_op os_mod (se_op os_add (se_op os_add (se_op os_mul (Q2 3) (Q2 3)) (se_op os_mul Q9 (Q2 1))) (Q2 2)) Q9))
    (sb_one (ss_ret (se_op os_add (se_op os_mul (Q2 3) Q9) (Q2 4))))))))
def m__law_e_digit : MS := (mSeqS (mIfS (toB (mOp oLt (mOp oIx (Q5 0) (mC (.int 2))) (Q5 1))) (mSeqS (mSet 2 (mOp oIx (Q5 0) (mC (.int 1))))
    (mSeqS (mSet 3 (Q5 2))
    (mSeqS (mIfS (toB (mOp oLt (Q5 2) (mCall cLen (Q4 (mOp oIx (Q5 0) (mC (.int 0))) Qe)))) (mSet 3 (mOp oIx (mOp oIx (Q5 0) (mC (.int 0))) (Q5 2))) (mIfS (toB (mOp (oI fun a b=>.bl (decide (b < a))) (mCall cLen (Q4 (mOp oIx (Q5 0) (mC (.int 0))) Qe)) (mC (.int 0)))) (mSet 3 (mOp oAdd (mOp oMod (mOp oIx (mOp oIx (Q5 0) (mC (.int 0))) (mOp oMod (mOp oMul (Q5 2) (mC (.int 3))) (mCall cLen (Q4 (mOp oIx (Q5 0) (mC (.int 0))) Qe)))) (mOp oPow (mC (.int 10)) (mC (.int 9)))) (mOp oMul (Q5 2) (mC (.int 1000000))))) mNext))
    (mSeqS (mSetIx (Q5 0) (mC (.int 1)) (mOp oAdd (Q5 2) (mC (.int 1))))
    (mSetIx (Q5 0) (mC (.int 2)) (mCallF 2 F__law_e_stirred (Q4 (Q5 3) (Q4 (Q5 2) Qe)))))))) mNext)
    (mSeqS (mSet 4 (mOp oMod (mOp oIx (Q5 0) (mC (.int 2))) (Q5 1)))
    (mSeqS (mSetIx (Q5 0) (mC (.int 2)) (mOp oDiv (mOp oIx (Q5 0) (mC (.int 2))) (Q5 1)))
    (mRet (Q5 4)))))
def F__law_e_digit:FN:=callF m__law_e_digit 5
theorem sc__law_e_digit:FnScope ["tape", "many", "place", "cell", "digit"] ["tape", "many"] (Q7 s__law_e_digit):=⟨rfl,rfl,rfl,by decide +kernel,rfl,by decide +kernel,by decide +kernel⟩
theorem ok__law_e_digit {f:Addr} {fd:FuncData} (F:Fun K "_law_e_digit" "_law_e_digit" s__law_e_digit f fd) (T:Txt mg)  (D__law_e_stirred:DefS P w K mg base 1 "_law_e_stirred" 2 F__law_e_stirred):FnOk P w K mg base (CXD P w) 2 f fd ["tape", "many"] (spF mg 2 F__law_e_digit):=by
  refine fun_ok2 (k:=1) (m:=m__law_e_digit) F sc__law_e_digit rfl rfl rfl fun cdv A outer s H E hr=>?_
  exact (Qa (ss_if (st_cmp (os_lt hr.units) (se_ix (Q2 0) Q9) (Q2 1)) (Qa (ss_set 2 sc__law_e_digit.nd (se_ix (Q2 0) Q9))
    (Qa (ss_set 3 sc__law_e_digit.nd (Q2 2))
    (Qa (ss_if (st_cmp (os_lt hr.units) (Q2 2) (se_callB cs_len rfl T.b_len PySem.boot_len (Q1 (se_ix (Q2 0) Q9) Q6))) (sb_one (ss_set 3 sc__law_e_digit.nd (se_ix (se_ix (Q2 0) Q9) (Q2 2)))) (sb_one (ss_if (st_cmp os_gt (se_callB cs_len rfl T.b_len PySem.boot_len (Q1 (se_ix (Q2 0) Q9) Q6)) Q9) (sb_one (ss_set 3 sc__law_e_digit.nd (se_op os_add (se_op os_mod (se_ix (se_ix (Q2 0) Q9) (se_op os_mod (se_op os_mul (Q2 2) Q9) (se_callB cs_len rfl T.b_len PySem.boot_len (Q1 (se_ix (Q2 0) Q9) Q6)))) (se_op os_pow Q9 Q9)) (se_op os_mul (Q2 2) Q9)))) sb_nil)))
    (Qa (ss_sub (se_op os_add (Q2 2) Q9) (Q2 0) Q9)
    (sb_one (ss_sub (se_call D__law_e_stirred (hr.mono (by decide)) Qd rfl (Q1 (Q2 3) (Q1 (Q2 2) Q6))) (Q2 0) Q9)))))) sb_nil)
    (Qa (ss_set 4 sc__law_e_digit.nd (se_op os_mod (se_ix (Q2 0) Q9) (Q2 1)))
    (Qa (ss_sub (se_op os_div (se_ix (Q2 0) Q9) (Q2 1)) (Q2 0) Q9)
    (sb_one (ss_ret (Q2 4))))))
def e__law_e_subset_1:ME:=(Q5 0)
def t__law_e_subset_1:MT:=(toB (mOp oEq (mCallF 2 F__law_e_digit (Q4 (Q5 1) (Q4 (mC (.int 2)) Qe))) (mC (.int 0))))
def m__law_e_subset:MS:=(mRet (mCall cTuple (Q4 (mVal (mCompN [none,some 0] (gaName 0) (mRange1 (Q4 (Q5 1) Qe)) t__law_e_subset_1 e__law_e_subset_1)) Qe)))
def F__law_e_subset:FN:=callK m__law_e_subset 2
theorem sc__law_e_subset:FnScope ["tape", "n"] ["tape", "n"] (Q7 s__law_e_subset):=⟨rfl,rfl,rfl,by decide +kernel,rfl,by decide +kernel,by decide +kernel⟩
theorem ok__law_e_subset {f:Addr} {fd:FuncData} (F:Fun K "_law_e_subset" "_law_e_subset" s__law_e_subset f fd) (T:Txt mg)  (D__law_e_digit:DefS P w K mg base 2 "_law_e_digit" 2 F__law_e_digit):FnOk P w K mg base (CXD P w) 3 f fd ["tape", "n"] (spF mg 2 F__law_e_subset):=by
  refine fun_ok2K (k:=2) (m:=m__law_e_subset) F sc__law_e_subset rfl rfl rfl fun cdv A outer s H E hr=>?_
  exact (sb_one (ss_ret (se_callT cs_tuple rfl T.b_tuple boot_tuple (Q1 (se_val (sn_comp [none,some 0] ["house", "tape"] rfl (si_range1 rfl T.b_range (Q1 (Q2 1) Q6)) (fun _ _ _ _ _=>(sg_name (i:=0) (show (["house", "tape"]:List Str).Nodup by decide +kernel))) (fun _ _ _ _ _=>(Q2 0)) (fun _ _ _ _ _=>(sts_one (st_cmp (os_eq hr.units) (se_call D__law_e_digit (hr.mono (by decide)) pass00D rfl (Q1 (Q2 1) (Q1 Q9 Q6))) Q9))) free_name)) Q6))))
def e__law_e_sized_1:ME:=(mOp oAdd (Q5 0) (mTup (Q4 (Q5 1) Qe)))
def b__law_e_sized_1:MS:=(mSet 2 (mOp oAdd (Q5 2) (mVal (mCompN [none,some 3] (gaName 0) (mSeq (Q5 2)) mTrue e__law_e_sized_1))))
def e__law_e_sized_2:ME:=(Q5 0)
def t__law_e_sized_2:MT:=(toB (mOp oEq (mCall cLen (Q4 (Q5 0) Qe)) (Q5 1)))
def m__law_e_sized : MS := (mSeqS (mSet 2 (mLst (Q4 (mTup Qe) Qe)))
    (mSeqS (mFor (gaName 3) (mRange1 (Q4 (Q5 0) Qe)) b__law_e_sized_1)
    (mRet (mCall cSortT (Q4 (mVal (mCompN [none,some 1] (gaName 0) (mSeq (Q5 2)) t__law_e_sized_2 e__law_e_sized_2)) Qe)))))
def F__law_e_sized:FN:=callF m__law_e_sized 4
theorem sc__law_e_sized:FnScope ["n", "many", "found", "house"] ["n", "many"] (Q7 s__law_e_sized):=⟨rfl,rfl,rfl,by decide +kernel,rfl,by decide +kernel,by decide +kernel⟩
theorem ok__law_e_sized {f:Addr} {fd:FuncData} (F:Fun K "_law_e_sized" "_law_e_sized" s__law_e_sized f fd) (T:Txt mg)   : FnOk P w K mg base (CXD P w) 1 f fd ["n", "many"] (spF mg 2 F__law_e_sized):=by
  refine fun_ok2 (k:=0) (m:=m__law_e_sized) F sc__law_e_sized rfl rfl rfl fun cdv A outer s H E hr=>?_
  exact (Qa (ss_set 2 sc__law_e_sized.nd (se_lst (Q1 (se_tup Q6) Q6)))
    (Qa (ss_for PassesOwn.leaving rfl (si_range1 rfl T.b_range (Q1 (Q2 0) Q6)) (sg_name (i:=3) sc__law_e_sized.nd) (sb_one (ss_set 2 sc__law_e_sized.nd (se_op os_add (Q2 2) (se_val (sn_comp [none,some 3] ["one", "house"] rfl (si_seq (Q2 2)) (fun _ _ _ _ _=>(sg_name (i:=0) (show (["one", "house"]:List Str).Nodup by decide +kernel))) (fun _ _ _ _ _=>(se_op os_add (Q2 0) (se_tup (Q1 (Q2 1) Q6)))) (fun _ _ _ _ _=>sts_nil) free_name))))))
    (sb_one (ss_ret (se_callB cs_sortT rfl T.b_sorted boot_sorted (Q1 (se_val (sn_comp [none,some 1] ["one", "many"] rfl (si_seq (Q2 2)) (fun _ _ _ _ _=>(sg_name (i:=0) (show (["one", "many"]:List Str).Nodup by decide +kernel))) (fun _ _ _ _ _=>(Q2 0)) (fun _ _ _ _ _=>(sts_one (st_cmp (os_eq hr.units) (se_callB cs_len rfl T.b_len PySem.boot_len (Q1 (Q2 0) Q6)) (Q2 1)))) free_name)) Q6))))))
def e__law_e_book_1:ME:=(Q5 0)
def t__law_e_book_1:MT:=(toB (mOp (oI fun a b=>.bl (decide (b < a))) (mCallF 2 F__law_e_digit (Q4 (Q5 1) (Q4 (mC (.int 4)) Qe))) (mC (.int 0))))
def b__law_e_book_1 : MS := (mSeqS (mSet 6 (mCallF 2 F__law_e_subset (Q4 (Q5 0) (Q4 (Q5 2) Qe))))
    (mSeqS (mIfS (toB (mOp oEq (Q5 3) (mC (.int 1)))) (mSet 6 (mCall cTuple (Q4 (mVal (mCompN [none,some 0] (gaName 0) (mRange1 (Q4 (Q5 2) Qe)) t__law_e_book_1 e__law_e_book_1)) Qe))) mNext)
    (mIfS (toB (mOp oNe (Q5 6) (mTup Qe))) (mDPutT (Q5 4) (Q5 6) (mC (.bl true))) mNext)))
def m__law_e_book : MS := (mSeqS (mSet 2 (mOp oAdd (mC (.int 1)) (mCallF 2 F__law_e_digit (Q4 (Q5 0) (Q4 (Q5 1) Qe)))))
    (mSeqS (mSet 3 (mCallF 2 F__law_e_digit (Q4 (Q5 0) (Q4 (mC (.int 4)) Qe))))
    (mSeqS (mIfS (toB (mOp oEq (Q5 3) (mC (.int 0)))) (mRet (mTup (Q4 (Q5 2) (Q4 (mCall cTuple (Q4 (mCallF 2 F__law_e_sized (Q4 (Q5 2) (Q4 (mOp oAdd (mC (.int 1)) (mCallF 2 F__law_e_digit (Q4 (Q5 0) (Q4 (Q5 2) Qe)))) Qe))) Qe)) Qe)))) mNext)
    (mSeqS (mSet 4 mDispT)
    (mSeqS (mFor (gaName 5) (mRange1 (Q4 (mOp oAdd (mC (.int 1)) (mCallF 2 F__law_e_digit (Q4 (Q5 0) (Q4 (mC (.int 6)) Qe)))) Qe)) b__law_e_book_1)
    (mSeqS (mIfS (toB (mOp oEq (mCall cLenT (Q4 (Q5 4) Qe)) (mC (.int 0)))) (mDPutT (Q5 4) (mTup (Q4 (mOp (oI fun a b=>.int (a - b)) (Q5 2) (mC (.int 1))) Qe)) (mC (.bl true))) mNext)
    (mRet (mTup (Q4 (Q5 2) (Q4 (mCall cTuple (Q4 (mCall cSortD (Q4 (Q5 4) Qe)) Qe)) Qe))))))))))
def F__law_e_book:FN:=callK m__law_e_book 7
theorem sc__law_e_book:FnScope ["tape", "most", "n", "way", "sets", "turn", "one"] ["tape", "most"] (Q7 s__law_e_book):=⟨rfl,rfl,rfl,by decide +kernel,rfl,by decide +kernel,by decide +kernel⟩
theorem ok__law_e_book {f:Addr} {fd:FuncData} (F:Fun K "_law_e_book" "_law_e_book" s__law_e_book f fd) (T:Txt mg)  (D__law_e_digit:DefS P w K mg base 2 "_law_e_digit" 2 F__law_e_digit) (D__law_e_sized:DefS P w K mg base 1 "_law_e_sized" 2 F__law_e_sized) (D__law_e_subset:DefS P w K mg base 3 "_law_e_subset" 2 F__law_e_subset):FnOk P w K mg base (CXD P w) 4 f fd ["tape", "most"] (spF mg 2 F__law_e_book):=by
  refine fun_ok2K (k:=3) (m:=m__law_e_book) F sc__law_e_book rfl rfl rfl fun cdv A outer s H E hr=>?_
  exact (Qa (ss_set 2 sc__law_e_book.nd (se_op os_add Q9 (se_call D__law_e_digit (hr.mono (by decide)) Qd rfl (Q1 (Q2 0) (Q1 (Q2 1) Q6)))))
    (Qa (ss_set 3 sc__law_e_book.nd (se_call D__law_e_digit (hr.mono (by decide)) Qd rfl (Q1 (Q2 0) (Q1 Q9 Q6))))
    (Qa (ss_if (st_cmp (os_eq hr.units) (Q2 3) Q9) (sb_one (ss_ret (se_tup (Q1 (Q2 2) (Q1 (se_callT cs_tuple rfl T.b_tuple boot_tuple (Q1 (se_call D__law_e_sized (hr.mono (by decide)) Qd rfl (Q1 (Q2 2) (Q1 (se_op os_add Q9 (se_call D__law_e_digit (hr.mono (by decide)) Qd rfl (Q1 (Q2 0) (Q1 (Q2 2) Q6)))) Q6))) Q6)) Q6))))) sb_nil)
    (Qa (ss_set 4 sc__law_e_book.nd se_dispT)
    (Qa (ss_for PassesOwn.leaving rfl (si_range1 rfl T.b_range (Q1 (se_op os_add Q9 (se_call D__law_e_digit (hr.mono (by decide)) Qd rfl (Q1 (Q2 0) (Q1 Q9 Q6)))) Q6)) (sg_name (i:=5) sc__law_e_book.nd) (Qa (ss_set 6 sc__law_e_book.nd (se_call D__law_e_subset (hr.mono (by decide)) Qd rfl (Q1 (Q2 0) (Q1 (Q2 2) Q6))))
    (Qa (ss_if (st_cmp (os_eq hr.units) (Q2 3) Q9) (sb_one (ss_set 6 sc__law_e_book.nd (se_callT cs_tuple rfl T.b_tuple boot_tuple (Q1 (se_val (sn_comp [none,some 0] ["house", "tape"] rfl (si_range1 rfl T.b_range (Q1 (Q2 2) Q6)) (fun _ _ _ _ _=>(sg_name (i:=0) (show (["house", "tape"]:List Str).Nodup by decide +kernel))) (fun _ _ _ _ _=>(Q2 0)) (fun _ _ _ _ _=>(sts_one (st_cmp os_gt (se_call D__law_e_digit (hr.mono (by decide)) pass00D rfl (Q1 (Q2 1) (Q1 Q9 Q6))) Q9))) free_name)) Q6)))) sb_nil)
    (sb_one (ss_if (st_cmp (os_ne hr.units) (Q2 6) (se_tup Q6)) (sb_one (ss_dputT (room_u1 hr) se_bl (Q2 4) (Q2 6))) sb_nil)))))
    (Qa (ss_if (st_cmp (os_eq hr.units) (se_callB cs_lenT rfl T.b_len PySem.boot_len (Q1 (Q2 4) Q6)) Q9) (sb_one (ss_dputT (room_u1 hr) se_bl (Q2 4) (se_tup (Q1 (se_op os_sub (Q2 2) Q9) Q6)))) sb_nil)
    (sb_one (ss_ret (se_tup (Q1 (Q2 2) (Q1 (se_callT cs_tuple rfl T.b_tuple boot_tuple (Q1 (se_callB (cs_sortD rfl) rfl T.b_sorted boot_sorted (Q1 (Q2 4) Q6)) Q6)) Q6)))))))))))
def b__law_e_hit_1:MS:=(mIfS (toB (mOp (oIn false) (Q5 2) (Q5 1))) (mRet (mC (.bl true))) mNext)
def m__law_e_hit : MS := (mSeqS (mFor (gaName 2) (mSeq (Q5 0)) b__law_e_hit_1)
    (mRet (mC (.bl false))))
def F__law_e_hit:FN:=callF m__law_e_hit 3
theorem sc__law_e_hit:FnScope ["one", "some", "house"] ["one", "some"] (Q7 s__law_e_hit):=⟨rfl,rfl,rfl,by decide +kernel,rfl,by decide +kernel,by decide +kernel⟩
theorem ok__law_e_hit {f:Addr} {fd:FuncData} (F:Fun K "_law_e_hit" "_law_e_hit" s__law_e_hit f fd) (T:Txt mg)   : FnOk P w K mg base (CXD P w) 1 f fd ["one", "some"] (spF mg 2 F__law_e_hit):=by
  refine fun_ok2 (k:=0) (m:=m__law_e_hit) F sc__law_e_hit rfl rfl rfl fun cdv A outer s H E hr=>?_
  exact (Qa (ss_for PassesOwn.leaving rfl (si_seq (Q2 0)) (sg_name (i:=2) sc__law_e_hit.nd) (sb_one (ss_if (st_cmp (os_in hr.units) (Q2 2) (Q2 1)) (sb_one (ss_ret se_bl)) sb_nil)))
    (sb_one (ss_ret se_bl)))
def b__law_e_within_1:MS:=(mIfS (toB (mOp (oIn true) (Q5 2) (Q5 1))) (mRet (mC (.bl false))) mNext)
def m__law_e_within : MS := (mSeqS (mFor (gaName 2) (mSeq (Q5 0)) b__law_e_within_1)
    (mRet (mC (.bl true))))
def F__law_e_within:FN:=callF m__law_e_within 3
theorem sc__law_e_within:FnScope ["one", "some", "house"] ["one", "some"] (Q7 s__law_e_within):=⟨rfl,rfl,rfl,by decide +kernel,rfl,by decide +kernel,by decide +kernel⟩
theorem ok__law_e_within {f:Addr} {fd:FuncData} (F:Fun K "_law_e_within" "_law_e_within" s__law_e_within f fd) (T:Txt mg)   : FnOk P w K mg base (CXD P w) 1 f fd ["one", "some"] (spF mg 2 F__law_e_within):=by
  refine fun_ok2 (k:=0) (m:=m__law_e_within) F sc__law_e_within rfl rfl rfl fun cdv A outer s H E hr=>?_
  exact (Qa (ss_for PassesOwn.leaving rfl (si_seq (Q2 0)) (sg_name (i:=2) sc__law_e_within.nd) (sb_one (ss_if (st_cmp (os_notin hr.units) (Q2 2) (Q2 1)) (sb_one (ss_ret se_bl)) sb_nil)))
    (sb_one (ss_ret se_bl)))
def m__law_e_door : MS := (mSeqS (mIfS (toB (mOp oEq (Q5 0) (mC (.int 0)))) (mRet (mCallF 2 F_free_set (Q4 (Q5 1) (Q4 (Q5 2) Qe)))) mNext)
    (mSeqS (mIfS (toB (mOp oEq (Q5 0) (mC (.int 1)))) (mRet (mCallF 2 F_unmet_set (Q4 (Q5 1) (Q4 (Q5 2) Qe)))) mNext)
    (mSeqS (mIfS (toB (mOp oEq (Q5 0) (mC (.int 2)))) (mRet (mCallF 2 F_is_stuck (Q4 (Q5 1) (Q4 (Q5 2) Qe)))) mNext)
    (mSeqS (mIfS (toB (mOp oEq (Q5 0) (mC (.int 3)))) (mRet (mCallF 3 F_is_blind (Q4 (Q5 1) (Q4 (Q5 2) (Q4 (mTup (Q4 (mC (.int 0)) Qe)) Qe))))) mNext)
    (mSeqS (mIfS (toB (mOp oEq (Q5 0) (mC (.int 4)))) (mRet (mCallF 2 F_bears (Q4 (Q5 1) (Q4 (mC (.int 0)) Qe)))) mNext)
    (mRet (mCallF 1 F_most_borne (Q4 (Q5 1) Qe))))))))
def F__law_e_door:FN:=callF m__law_e_door 3
theorem sc__law_e_door:FnScope ["way", "book", "some"] ["way", "book", "some"] (Q7 s__law_e_door):=⟨rfl,rfl,rfl,by decide +kernel,rfl,by decide +kernel,by decide +kernel⟩
theorem ok__law_e_door {f:Addr} {fd:FuncData} (F:Fun K "_law_e_door" "_law_e_door" s__law_e_door f fd) (T:Txt mg)  (D_free_set:DefS P w K mg base 9 "free_set" 2 F_free_set) (D_unmet_set:DefS P w K mg base 9 "unmet_set" 2 F_unmet_set) (D_is_stuck:DefS P w K mg base 9 "is_stuck" 2 F_is_stuck) (D_is_blind:DefS P w K mg base 9 "is_blind" 3 F_is_blind) (D_bears:DefS P w K mg base 8 "bears" 2 F_bears) (D_most_borne:DefS P w K mg base 8 "most_borne" 1 F_most_borne):FnOk P w K mg base (CXD P w) 10 f fd ["way", "book", "some"] (spF mg 3 F__law_e_door):=by
  refine fun_ok2 (k:=9) (m:=m__law_e_door) F sc__law_e_door rfl rfl rfl fun cdv A outer s H E hr=>?_
  exact (Qa (ss_if (st_cmp (os_eq hr.units) (Q2 0) Q9) (sb_one (ss_ret (se_call D_free_set (hr.mono (by decide)) Qd rfl (Q1 (Q2 1) (Q1 (Q2 2) Q6))))) sb_nil)
    (Qa (ss_if (st_cmp (os_eq hr.units) (Q2 0) Q9) (sb_one (ss_ret (se_call D_unmet_set (hr.mono (by decide)) Qd rfl (Q1 (Q2 1) (Q1 (Q2 2) Q6))))) sb_nil)
    (Qa (ss_if (st_cmp (os_eq hr.units) (Q2 0) Q9) (sb_one (ss_ret (se_call D_is_stuck (hr.mono (by decide)) Qd rfl (Q1 (Q2 1) (Q1 (Q2 2) Q6))))) sb_nil)
    (Qa (ss_if (st_cmp (os_eq hr.units) (Q2 0) Q9) (sb_one (ss_ret (se_call D_is_blind (hr.mono (by decide)) Qd rfl (Q1 (Q2 1) (Q1 (Q2 2) (Q1 (se_tup (Q1 Q9 Q6)) Q6)))))) sb_nil)
    (Qa (ss_if (st_cmp (os_eq hr.units) (Q2 0) Q9) (sb_one (ss_ret (se_call D_bears (hr.mono (by decide)) Qd rfl (Q1 (Q2 1) (Q1 Q9 Q6))))) sb_nil)
    (sb_one (ss_ret (se_call D_most_borne (hr.mono (by decide)) Qd rfl (Q1 (Q2 1) Q6)))))))))
def spKd (c:Nat->Addr):Sp:=fun vs H Q E=>∃ e dv,vs=[V.ref e]/\((H e=some (.ext (IsXD e (c 8) dv))/\∀ H2,Same H H2->Q (.str "book") H2)\/(H e=some (.ext (IsXD e (c 2) dv))/\∀ H2,Same H H2->Q (.str "house") H2))
theorem sc__law_e_kind:FnScope ["caught", "names", "kinds"] ["caught"] (Q7 s__law_e_kind):=⟨rfl,rfl,rfl,by decide +kernel,rfl,by decide +kernel,by decide +kernel⟩
theorem ok__law_e_kind {f:Addr} {fd:FuncData} {c:Nat->Addr} (F:Fun K "_law_e_kind" "_law_e_kind" s__law_e_kind f fd) (T:Txt mg) (Nm:Nms mg c) (T8:TgtS K c 8) (T2:TgtS K c 2):FnOk P w K mg base (CXD P w) 1 f fd ["caught"] (spKd c):=by
  refine Fun.okD (k:=0) F sc__law_e_kind (fun vs H Q E h=>by obtain ⟨e,dv,rfl,_⟩:=h; rfl) fun cdv A outer s H vs Q E hr hsp=>?_
  obtain ⟨e,dv,rfl,hsp⟩:=hsp
  refine jok ?_
  refine ⟨_,jss_cons (js_set (i:=1) sc__law_e_kind.nd rfl (Or.inl rfl) (je_lst ⟨pa_strsE ["road", "house", "table", "deed", "letter", "stand", "plan", "book", "manner", "many", "text", "row"] [(_,_),(_,_),(_,_),(_,_),(_,_),(_,_),(_,_),(_,_),(_,_),(_,_),(_,_),(_,_)] rfl⟩))
      (jss_cons (js_set (i:=2) sc__law_e_kind.nd rfl (Or.inl rfl) (je_lst (ja_cons ⟨pe_callB (call_isxD K) (by rfl) Nm.isi boot_isinstance (pa_cons (pv 0) (pa_cons (pe_glob (v:=.ref (c 6)) (by rfl) Nm.m6 rfl) pa_nil))⟩ (ja_cons ⟨pe_callB (call_isxD K) (by rfl) Nm.isi boot_isinstance (pa_cons (pv 0) (pa_cons (pe_glob (v:=.ref (c 2)) (by rfl) Nm.m2 rfl) pa_nil))⟩ (ja_cons ⟨pe_callB (call_isxD K) (by rfl) Nm.isi boot_isinstance (pa_cons (pv 0) (pa_cons (pe_glob (v:=.ref (c 1)) (by rfl) Nm.m1 rfl) pa_nil))⟩ ja_nil)))))
      (jss_cons (js_set (i:=2) sc__law_e_kind.nd rfl (Or.inl rfl) (je_op op_cat ⟨pv 2⟩ (je_lst (ja_cons ⟨pe_callB (call_isxD K) (by rfl) Nm.isi boot_isinstance (pa_cons (pv 0) (pa_cons (pe_glob (v:=.ref (c 3)) (by rfl) Nm.m3 rfl) pa_nil))⟩ (ja_cons ⟨pe_callB (call_isxD K) (by rfl) Nm.isi boot_isinstance (pa_cons (pv 0) (pa_cons (pe_glob (v:=.ref (c 4)) (by rfl) Nm.m4 rfl) pa_nil))⟩ (ja_cons ⟨pe_callB (call_isxD K) (by rfl) Nm.isi boot_isinstance (pa_cons (pv 0) (pa_cons (pe_glob (v:=.ref (c 5)) (by rfl) Nm.m5 rfl) pa_nil))⟩ ja_nil))))))
      (jss_cons (js_set (i:=2) sc__law_e_kind.nd rfl (Or.inl rfl) (je_op op_cat ⟨pv 2⟩ (je_lst (ja_cons ⟨pe_callB (call_isxD K) (by rfl) Nm.isi boot_isinstance (pa_cons (pv 0) (pa_cons (pe_glob (v:=.ref (c 7)) (by rfl) Nm.m7 rfl) pa_nil))⟩ (ja_cons ⟨pe_callB (call_isxD K) (by rfl) Nm.isi boot_isinstance (pa_cons (pv 0) (pa_cons (pe_glob (v:=.ref (c 8)) (by rfl) Nm.m8 rfl) pa_nil))⟩ (ja_cons ⟨pe_callB (call_isxD K) (by rfl) Nm.isi boot_isinstance (pa_cons (pv 0) (pa_cons (pe_glob (v:=.ref (c 9)) (by rfl) Nm.m9 rfl) pa_nil))⟩ ja_nil))))))
      (jss_cons (js_set (i:=2) sc__law_e_kind.nd rfl (Or.inl rfl) (je_op op_cat ⟨pv 2⟩ (je_lst (ja_cons ⟨pe_callB (call_isxD K) (by rfl) Nm.isi boot_isinstance (pa_cons (pv 0) (pa_cons (pe_glob (v:=.ref (c 10)) (by rfl) Nm.m10 rfl) pa_nil))⟩ (ja_cons ⟨pe_callB (call_isxD K) (by rfl) Nm.isi boot_isinstance (pa_cons (pv 0) (pa_cons (pe_glob (v:=.ref (c 11)) (by rfl) Nm.m11 rfl) pa_nil))⟩ (ja_cons ⟨pe_callB (call_isxD K) (by rfl) Nm.isi boot_isinstance (pa_cons (pv 0) (pa_cons (pe_glob (v:=.ref (c 12)) (by rfl) Nm.m12 rfl) pa_nil))⟩ ja_nil))))))
      (jss_cons (js_set (i:=2) sc__law_e_kind.nd rfl (Or.inl rfl) (je_op op_cat ⟨pv 2⟩ (je_lst (ja_cons ⟨pe_callB (call_isxD K) (by rfl) Nm.isi boot_isinstance (pa_cons (pv 0) (pa_cons (pe_glob (v:=.ref (c 13)) (by rfl) Nm.m13 rfl) pa_nil))⟩ (ja_cons ⟨pe_callB (call_isxD K) (by rfl) Nm.isi boot_isinstance (pa_cons (pv 0) (pa_cons (pe_glob (v:=.ref (c 14)) (by rfl) Nm.m14 rfl) pa_nil))⟩ ja_nil)))))
      (jss_cons (js_if (PW.pt (pw_or (pt_cmpR op_ne (pe_bm PySem.F.plainAttrs_list PySem.F.slot_list_count PySem.F.type_list_count mt_countB (pv 2) (pa_cons pe_bl pa_nil)) pe_int (nomark _)) (pw_or1 (pt_not (pt_val (pe_callB (call_isxD K) (by rfl) Nm.isi boot_isinstance (pa_cons (pv 0) (pa_cons (pe_bltn (v:=.ty "ValueError") (by rfl) Nm.ve boot_ValueError rfl) pa_nil)))))))) (jss_one (js_ret je_str)) jss_nil)
      (jss_one (js_ret (je_ix ix_list (je_op op_cat ⟨pv 1⟩ (je_lst ⟨pa_strsE ["name", "short"] [(_,_),(_,_)] rfl⟩)) ⟨pe_bm PySem.F.plainAttrs_list PySem.F.slot_list_index PySem.F.type_list_index mt_indexB (pv 2) (pa_cons pe_bl pa_nil)⟩ (fun _ _=>rfl)))))))))),?_⟩
  rcases hsp with ⟨hE0,hQ⟩ | ⟨hE0,hQ⟩
  · refine ⟨by decide,fun p1 hp1=>?_⟩
    obtain ⟨H1,e1⟩:∃ H1,upd H p1 (.lst (List.map V.str ["road", "house", "table", "deed", "letter", "stand", "plan", "book", "manner", "many", "text", "row"]))=H1:=⟨_,rfl⟩
    have hE1:H1 e=some (.ext (IsXD e (c 8) dv)):=e1 ▸ keepE hE0 hp1
    have sm1:Same H H1:=e1 ▸ same_add (fun _ _ z=>z) hp1
    have k_p1_1:H1 p1=some (.lst (List.map V.str ["road", "house", "table", "deed", "letter", "stand", "plan", "book", "manner", "many", "text", "row"])):=e1 ▸ upd_same
    rw [show upd H p1 (.lst (List.map V.str ["road", "house", "table", "deed", "letter", "stand", "plan", "book", "manner", "many", "text", "row"]))=H1 from e1]
    refine ⟨_,rfl,e,_,_,_,_,false,rfl,rfl,hE1,T8.xc,T8.k 6 (by decide) (by decide),?_⟩
    refine ⟨_,rfl,e,_,_,_,_,false,rfl,rfl,hE1,T8.xc,T8.k 2 (by decide) (by decide),?_⟩
    refine ⟨_,rfl,e,_,_,_,_,false,rfl,rfl,hE1,T8.xc,T8.k 1 (by decide) (by decide),?_⟩
    refine ⟨by decide,fun p2 hp2=>?_⟩
    obtain ⟨H2,e2⟩:∃ H2,upd H1 p2 (.lst [.bl false,.bl false,.bl false])=H2:=⟨_,rfl⟩
    have hE2:H2 e=some (.ext (IsXD e (c 8) dv)):=e2 ▸ keepE hE1 hp2
    have sm2:Same H H2:=e2 ▸ same_add sm1 hp2
    have k_p2_2:H2 p2=some (.lst [.bl false,.bl false,.bl false]):=e2 ▸ upd_same
    have k_p1_2:H2 p1=some (.lst (List.map V.str ["road", "house", "table", "deed", "letter", "stand", "plan", "book", "manner", "many", "text", "row"])):=e2 ▸ keepE k_p1_1 hp2
    rw [show upd H1 p2 (.lst (_))=H2 from e2]
    refine ⟨_,rfl,?_⟩
    refine ⟨_,rfl,e,_,_,_,_,false,rfl,rfl,hE2,T8.xc,T8.k 3 (by decide) (by decide),?_⟩
    refine ⟨_,rfl,e,_,_,_,_,false,rfl,rfl,hE2,T8.xc,T8.k 4 (by decide) (by decide),?_⟩
    refine ⟨_,rfl,e,_,_,_,_,false,rfl,rfl,hE2,T8.xc,T8.k 5 (by decide) (by decide),?_⟩
    refine ⟨by decide,fun p3 hp3=>?_⟩
    obtain ⟨H3,e3⟩:∃ H3,upd H2 p3 (.lst [.bl false,.bl false,.bl false])=H3:=⟨_,rfl⟩
    have hE3:H3 e=some (.ext (IsXD e (c 8) dv)):=e3 ▸ keepE hE2 hp3
    have sm3:Same H H3:=e3 ▸ same_add sm2 hp3
    have k_p3_3:H3 p3=some (.lst [.bl false,.bl false,.bl false]):=e3 ▸ upd_same
    have k_p1_3:H3 p1=some (.lst (List.map V.str ["road", "house", "table", "deed", "letter", "stand", "plan", "book", "manner", "many", "text", "row"])):=e3 ▸ keepE k_p1_2 hp3
    have k_p2_3:H3 p2=some (.lst [.bl false,.bl false,.bl false]):=e3 ▸ keepE k_p2_2 hp3
    rw [show upd H2 p3 (.lst (_))=H3 from e3]
    refine ⟨_,_,_,_,rfl,rfl,k_p2_3,k_p3_3,by decide,fun p4 hp4=>?_⟩
    obtain ⟨H4,e4⟩:∃ H4,upd H3 p4 (.lst [.bl false,.bl false,.bl false,.bl false,.bl false,.bl false])=H4:=⟨_,rfl⟩
    have hE4:H4 e=some (.ext (IsXD e (c 8) dv)):=e4 ▸ keepE hE3 hp4
    have sm4:Same H H4:=e4 ▸ same_add sm3 hp4
    have k_p4_4:H4 p4=some (.lst [.bl false,.bl false,.bl false,.bl false,.bl false,.bl false]):=e4 ▸ upd_same
    have k_p1_4:H4 p1=some (.lst (List.map V.str ["road", "house", "table", "deed", "letter", "stand", "plan", "book", "manner", "many", "text", "row"])):=e4 ▸ keepE k_p1_3 hp4
    have k_p2_4:H4 p2=some (.lst [.bl false,.bl false,.bl false]):=e4 ▸ keepE k_p2_3 hp4
    rw [show upd H3 p4 (.lst ([.bl false,.bl false,.bl false] ++ [.bl false,.bl false,.bl false]))=H4 from e4]
    refine ⟨_,rfl,?_⟩
    refine ⟨_,rfl,e,_,_,_,_,false,rfl,rfl,hE4,T8.xc,T8.k 7 (by decide) (by decide),?_⟩
    refine ⟨_,rfl,e,_,_,_,_,true,rfl,rfl,hE4,T8.xc,T8.k 8 (by decide) (by decide),?_⟩
    refine ⟨_,rfl,e,_,_,_,_,false,rfl,rfl,hE4,T8.xc,T8.k 9 (by decide) (by decide),?_⟩
    refine ⟨by decide,fun p5 hp5=>?_⟩
    obtain ⟨H5,e5⟩:∃ H5,upd H4 p5 (.lst [.bl false,.bl true,.bl false])=H5:=⟨_,rfl⟩
    have hE5:H5 e=some (.ext (IsXD e (c 8) dv)):=e5 ▸ keepE hE4 hp5
    have sm5:Same H H5:=e5 ▸ same_add sm4 hp5
    have k_p5_5:H5 p5=some (.lst [.bl false,.bl true,.bl false]):=e5 ▸ upd_same
    have k_p1_5:H5 p1=some (.lst (List.map V.str ["road", "house", "table", "deed", "letter", "stand", "plan", "book", "manner", "many", "text", "row"])):=e5 ▸ keepE k_p1_4 hp5
    have k_p4_5:H5 p4=some (.lst [.bl false,.bl false,.bl false,.bl false,.bl false,.bl false]):=e5 ▸ keepE k_p4_4 hp5
    rw [show upd H4 p5 (.lst (_))=H5 from e5]
    refine ⟨_,_,_,_,rfl,rfl,k_p4_5,k_p5_5,by decide,fun p6 hp6=>?_⟩
    obtain ⟨H6,e6⟩:∃ H6,upd H5 p6 (.lst [.bl false,.bl false,.bl false,.bl false,.bl false,.bl false,.bl false,.bl true,.bl false])=H6:=⟨_,rfl⟩
    have hE6:H6 e=some (.ext (IsXD e (c 8) dv)):=e6 ▸ keepE hE5 hp6
    have sm6:Same H H6:=e6 ▸ same_add sm5 hp6
    have k_p6_6:H6 p6=some (.lst [.bl false,.bl false,.bl false,.bl false,.bl false,.bl false,.bl false,.bl true,.bl false]):=e6 ▸ upd_same
    have k_p1_6:H6 p1=some (.lst (List.map V.str ["road", "house", "table", "deed", "letter", "stand", "plan", "book", "manner", "many", "text", "row"])):=e6 ▸ keepE k_p1_5 hp6
    have k_p4_6:H6 p4=some (.lst [.bl false,.bl false,.bl false,.bl false,.bl false,.bl false]):=e6 ▸ keepE k_p4_5 hp6
    rw [show upd H5 p6 (.lst ([.bl false,.bl false,.bl false,.bl false,.bl false,.bl false] ++ [.bl false,.bl true,.bl false]))=H6 from e6]
    refine ⟨_,rfl,?_⟩
    refine ⟨_,rfl,e,_,_,_,_,false,rfl,rfl,hE6,T8.xc,T8.k 10 (by decide) (by decide),?_⟩
    refine ⟨_,rfl,e,_,_,_,_,false,rfl,rfl,hE6,T8.xc,T8.k 11 (by decide) (by decide),?_⟩
    refine ⟨_,rfl,e,_,_,_,_,false,rfl,rfl,hE6,T8.xc,T8.k 12 (by decide) (by decide),?_⟩
    refine ⟨by decide,fun p7 hp7=>?_⟩
    obtain ⟨H7,e7⟩:∃ H7,upd H6 p7 (.lst [.bl false,.bl false,.bl false])=H7:=⟨_,rfl⟩
    have hE7:H7 e=some (.ext (IsXD e (c 8) dv)):=e7 ▸ keepE hE6 hp7
    have sm7:Same H H7:=e7 ▸ same_add sm6 hp7
    have k_p7_7:H7 p7=some (.lst [.bl false,.bl false,.bl false]):=e7 ▸ upd_same
    have k_p1_7:H7 p1=some (.lst (List.map V.str ["road", "house", "table", "deed", "letter", "stand", "plan", "book", "manner", "many", "text", "row"])):=e7 ▸ keepE k_p1_6 hp7
    have k_p6_7:H7 p6=some (.lst [.bl false,.bl false,.bl false,.bl false,.bl false,.bl false,.bl false,.bl true,.bl false]):=e7 ▸ keepE k_p6_6 hp7
    rw [show upd H6 p7 (.lst (_))=H7 from e7]
    refine ⟨_,_,_,_,rfl,rfl,k_p6_7,k_p7_7,by decide,fun p8 hp8=>?_⟩
    obtain ⟨H8,e8⟩:∃ H8,upd H7 p8 (.lst [.bl false,.bl false,.bl false,.bl false,.bl false,.bl false,.bl false,.bl true,.bl false,.bl false,.bl false,.bl false])=H8:=⟨_,rfl⟩
    have hE8:H8 e=some (.ext (IsXD e (c 8) dv)):=e8 ▸ keepE hE7 hp8
    have sm8:Same H H8:=e8 ▸ same_add sm7 hp8
    have k_p8_8:H8 p8=some (.lst [.bl false,.bl false,.bl false,.bl false,.bl false,.bl false,.bl false,.bl true,.bl false,.bl false,.bl false,.bl false]):=e8 ▸ upd_same
    have k_p1_8:H8 p1=some (.lst (List.map V.str ["road", "house", "table", "deed", "letter", "stand", "plan", "book", "manner", "many", "text", "row"])):=e8 ▸ keepE k_p1_7 hp8
    have k_p6_8:H8 p6=some (.lst [.bl false,.bl false,.bl false,.bl false,.bl false,.bl false,.bl false,.bl true,.bl false]):=e8 ▸ keepE k_p6_7 hp8
    rw [show upd H7 p8 (.lst ([.bl false,.bl false,.bl false,.bl false,.bl false,.bl false,.bl false,.bl true,.bl false] ++ [.bl false,.bl false,.bl false]))=H8 from e8]
    refine ⟨_,rfl,?_⟩
    refine ⟨_,rfl,e,_,_,_,_,false,rfl,rfl,hE8,T8.xc,T8.k 13 (by decide) (by decide),?_⟩
    refine ⟨_,rfl,e,_,_,_,_,false,rfl,rfl,hE8,T8.xc,T8.k 14 (by decide) (by decide),?_⟩
    refine ⟨by decide,fun p9 hp9=>?_⟩
    obtain ⟨H9,e9⟩:∃ H9,upd H8 p9 (.lst [.bl false,.bl false])=H9:=⟨_,rfl⟩
    have hE9:H9 e=some (.ext (IsXD e (c 8) dv)):=e9 ▸ keepE hE8 hp9
    have sm9:Same H H9:=e9 ▸ same_add sm8 hp9
    have k_p9_9:H9 p9=some (.lst [.bl false,.bl false]):=e9 ▸ upd_same
    have k_p1_9:H9 p1=some (.lst (List.map V.str ["road", "house", "table", "deed", "letter", "stand", "plan", "book", "manner", "many", "text", "row"])):=e9 ▸ keepE k_p1_8 hp9
    have k_p8_9:H9 p8=some (.lst [.bl false,.bl false,.bl false,.bl false,.bl false,.bl false,.bl false,.bl true,.bl false,.bl false,.bl false,.bl false]):=e9 ▸ keepE k_p8_8 hp9
    rw [show upd H8 p9 (.lst (_))=H9 from e9]
    refine ⟨_,_,_,_,rfl,rfl,k_p8_9,k_p9_9,by decide,fun p10 hp10=>?_⟩
    obtain ⟨H10,e10⟩:∃ H10,upd H9 p10 (.lst [.bl false,.bl false,.bl false,.bl false,.bl false,.bl false,.bl false,.bl true,.bl false,.bl false,.bl false,.bl false,.bl false,.bl false])=H10:=⟨_,rfl⟩
    have hE10:H10 e=some (.ext (IsXD e (c 8) dv)):=e10 ▸ keepE hE9 hp10
    have sm10:Same H H10:=e10 ▸ same_add sm9 hp10
    have k_p10_10:H10 p10=some (.lst [.bl false,.bl false,.bl false,.bl false,.bl false,.bl false,.bl false,.bl true,.bl false,.bl false,.bl false,.bl false,.bl false,.bl false]):=e10 ▸ upd_same
    have k_p1_10:H10 p1=some (.lst (List.map V.str ["road", "house", "table", "deed", "letter", "stand", "plan", "book", "manner", "many", "text", "row"])):=e10 ▸ keepE k_p1_9 hp10
    have k_p8_10:H10 p8=some (.lst [.bl false,.bl false,.bl false,.bl false,.bl false,.bl false,.bl false,.bl true,.bl false,.bl false,.bl false,.bl false]):=e10 ▸ keepE k_p8_9 hp10
    rw [show upd H9 p10 (.lst ([.bl false,.bl false,.bl false,.bl false,.bl false,.bl false,.bl false,.bl true,.bl false,.bl false,.bl false,.bl false] ++ [.bl false,.bl false]))=H10 from e10]
    refine ⟨_,rfl,.inl ⟨rfl,_,.inl (.inl k_p10_10)⟩,_,[false,false,false,false,false,false,false,true,false,false,false,false,false,false],rfl,rfl,k_p10_10,rfl,_,rfl,iteF ?_⟩
    refine ⟨_,rfl,e,_,_,_,_,true,rfl,rfl,hE10,T8.xc,T8.ve,_,rfl,iteF ?_⟩
    refine ⟨_,rfl,?_⟩
    refine ⟨by decide,fun p11 hp11=>?_⟩
    obtain ⟨H11,e11⟩:∃ H11,upd H10 p11 (.lst (List.map V.str ["name", "short"]))=H11:=⟨_,rfl⟩
    have hE11:H11 e=some (.ext (IsXD e (c 8) dv)):=e11 ▸ keepE hE10 hp11
    have sm11:Same H H11:=e11 ▸ same_add sm10 hp11
    have k_p11_11:H11 p11=some (.lst (List.map V.str ["name", "short"])):=e11 ▸ upd_same
    have k_p1_11:H11 p1=some (.lst (List.map V.str ["road", "house", "table", "deed", "letter", "stand", "plan", "book", "manner", "many", "text", "row"])):=e11 ▸ keepE k_p1_10 hp11
    have k_p10_11:H11 p10=some (.lst [.bl false,.bl false,.bl false,.bl false,.bl false,.bl false,.bl false,.bl true,.bl false,.bl false,.bl false,.bl false,.bl false,.bl false]):=e11 ▸ keepE k_p10_10 hp11
    rw [show upd H10 p11 (.lst (List.map V.str ["name", "short"]))=H11 from e11]
    refine ⟨_,_,_,_,rfl,rfl,k_p1_11,k_p11_11,by decide,fun p12 hp12=>?_⟩
    obtain ⟨H12,e12⟩:∃ H12,upd H11 p12 (.lst (List.map V.str ["road", "house", "table", "deed", "letter", "stand", "plan", "book", "manner", "many", "text", "row"] ++ List.map V.str ["name", "short"]))=H12:=⟨_,rfl⟩
    have hE12:H12 e=some (.ext (IsXD e (c 8) dv)):=e12 ▸ keepE hE11 hp12
    have sm12:Same H H12:=e12 ▸ same_add sm11 hp12
    have k_p12_12:H12 p12=some (.lst (List.map V.str ["road", "house", "table", "deed", "letter", "stand", "plan", "book", "manner", "many", "text", "row"] ++ List.map V.str ["name", "short"])):=e12 ▸ upd_same
    have k_p1_12:H12 p1=some (.lst (List.map V.str ["road", "house", "table", "deed", "letter", "stand", "plan", "book", "manner", "many", "text", "row"])):=e12 ▸ keepE k_p1_11 hp12
    have k_p10_12:H12 p10=some (.lst [.bl false,.bl false,.bl false,.bl false,.bl false,.bl false,.bl false,.bl true,.bl false,.bl false,.bl false,.bl false,.bl false,.bl false]):=e12 ▸ keepE k_p10_11 hp12
    have k_p11_12:H12 p11=some (.lst (List.map V.str ["name", "short"])):=e12 ▸ keepE k_p11_11 hp12
    rw [show upd H11 p12 (.lst (List.map V.str ["road", "house", "table", "deed", "letter", "stand", "plan", "book", "manner", "many", "text", "row"] ++ List.map V.str ["name", "short"]))=H12 from e12]
    refine ⟨_,rfl,.inl ⟨rfl,_,.inl (.inl k_p10_12)⟩,_,[false,false,false,false,false,false,false,true,false,false,false,false,false,false],7,rfl,rfl,k_p10_12,by decide,rfl,noB _ _ (by decide) (by decide),?_⟩
    refine ⟨_,_,_,_,rfl,rfl,.inl (.inl k_p12_12),rfl,?_⟩
    exact hQ _ sm12
  · refine ⟨by decide,fun p1 hp1=>?_⟩
    obtain ⟨H1,e1⟩:∃ H1,upd H p1 (.lst (List.map V.str ["road", "house", "table", "deed", "letter", "stand", "plan", "book", "manner", "many", "text", "row"]))=H1:=⟨_,rfl⟩
    have hE1:H1 e=some (.ext (IsXD e (c 2) dv)):=e1 ▸ keepE hE0 hp1
    have sm1:Same H H1:=e1 ▸ same_add (fun _ _ z=>z) hp1
    have k_p1_1:H1 p1=some (.lst (List.map V.str ["road", "house", "table", "deed", "letter", "stand", "plan", "book", "manner", "many", "text", "row"])):=e1 ▸ upd_same
    rw [show upd H p1 (.lst (List.map V.str ["road", "house", "table", "deed", "letter", "stand", "plan", "book", "manner", "many", "text", "row"]))=H1 from e1]
    refine ⟨_,rfl,e,_,_,_,_,false,rfl,rfl,hE1,T2.xc,T2.k 6 (by decide) (by decide),?_⟩
    refine ⟨_,rfl,e,_,_,_,_,true,rfl,rfl,hE1,T2.xc,T2.k 2 (by decide) (by decide),?_⟩
    refine ⟨_,rfl,e,_,_,_,_,false,rfl,rfl,hE1,T2.xc,T2.k 1 (by decide) (by decide),?_⟩
    refine ⟨by decide,fun p2 hp2=>?_⟩
    obtain ⟨H2,e2⟩:∃ H2,upd H1 p2 (.lst [.bl false,.bl true,.bl false])=H2:=⟨_,rfl⟩
    have hE2:H2 e=some (.ext (IsXD e (c 2) dv)):=e2 ▸ keepE hE1 hp2
    have sm2:Same H H2:=e2 ▸ same_add sm1 hp2
    have k_p2_2:H2 p2=some (.lst [.bl false,.bl true,.bl false]):=e2 ▸ upd_same
    have k_p1_2:H2 p1=some (.lst (List.map V.str ["road", "house", "table", "deed", "letter", "stand", "plan", "book", "manner", "many", "text", "row"])):=e2 ▸ keepE k_p1_1 hp2
    rw [show upd H1 p2 (.lst (_))=H2 from e2]
    refine ⟨_,rfl,?_⟩
    refine ⟨_,rfl,e,_,_,_,_,false,rfl,rfl,hE2,T2.xc,T2.k 3 (by decide) (by decide),?_⟩
    refine ⟨_,rfl,e,_,_,_,_,false,rfl,rfl,hE2,T2.xc,T2.k 4 (by decide) (by decide),?_⟩
    refine ⟨_,rfl,e,_,_,_,_,false,rfl,rfl,hE2,T2.xc,T2.k 5 (by decide) (by decide),?_⟩
    refine ⟨by decide,fun p3 hp3=>?_⟩
    obtain ⟨H3,e3⟩:∃ H3,upd H2 p3 (.lst [.bl false,.bl false,.bl false])=H3:=⟨_,rfl⟩
    have hE3:H3 e=some (.ext (IsXD e (c 2) dv)):=e3 ▸ keepE hE2 hp3
    have sm3:Same H H3:=e3 ▸ same_add sm2 hp3
    have k_p3_3:H3 p3=some (.lst [.bl false,.bl false,.bl false]):=e3 ▸ upd_same
    have k_p1_3:H3 p1=some (.lst (List.map V.str ["road", "house", "table", "deed", "letter", "stand", "plan", "book", "manner", "many", "text", "row"])):=e3 ▸ keepE k_p1_2 hp3
    have k_p2_3:H3 p2=some (.lst [.bl false,.bl true,.bl false]):=e3 ▸ keepE k_p2_2 hp3
    rw [show upd H2 p3 (.lst (_))=H3 from e3]
    refine ⟨_,_,_,_,rfl,rfl,k_p2_3,k_p3_3,by decide,fun p4 hp4=>?_⟩
    obtain ⟨H4,e4⟩:∃ H4,upd H3 p4 (.lst [.bl false,.bl true,.bl false,.bl false,.bl false,.bl false])=H4:=⟨_,rfl⟩
    have hE4:H4 e=some (.ext (IsXD e (c 2) dv)):=e4 ▸ keepE hE3 hp4
    have sm4:Same H H4:=e4 ▸ same_add sm3 hp4
    have k_p4_4:H4 p4=some (.lst [.bl false,.bl true,.bl false,.bl false,.bl false,.bl false]):=e4 ▸ upd_same
    have k_p1_4:H4 p1=some (.lst (List.map V.str ["road", "house", "table", "deed", "letter", "stand", "plan", "book", "manner", "many", "text", "row"])):=e4 ▸ keepE k_p1_3 hp4
    have k_p2_4:H4 p2=some (.lst [.bl false,.bl true,.bl false]):=e4 ▸ keepE k_p2_3 hp4
    rw [show upd H3 p4 (.lst ([.bl false,.bl true,.bl false] ++ [.bl false,.bl false,.bl false]))=H4 from e4]
    refine ⟨_,rfl,?_⟩
    refine ⟨_,rfl,e,_,_,_,_,false,rfl,rfl,hE4,T2.xc,T2.k 7 (by decide) (by decide),?_⟩
    refine ⟨_,rfl,e,_,_,_,_,false,rfl,rfl,hE4,T2.xc,T2.k 8 (by decide) (by decide),?_⟩
    refine ⟨_,rfl,e,_,_,_,_,false,rfl,rfl,hE4,T2.xc,T2.k 9 (by decide) (by decide),?_⟩
    refine ⟨by decide,fun p5 hp5=>?_⟩
    obtain ⟨H5,e5⟩:∃ H5,upd H4 p5 (.lst [.bl false,.bl false,.bl false])=H5:=⟨_,rfl⟩
    have hE5:H5 e=some (.ext (IsXD e (c 2) dv)):=e5 ▸ keepE hE4 hp5
    have sm5:Same H H5:=e5 ▸ same_add sm4 hp5
    have k_p5_5:H5 p5=some (.lst [.bl false,.bl false,.bl false]):=e5 ▸ upd_same
    have k_p1_5:H5 p1=some (.lst (List.map V.str ["road", "house", "table", "deed", "letter", "stand", "plan", "book", "manner", "many", "text", "row"])):=e5 ▸ keepE k_p1_4 hp5
    have k_p4_5:H5 p4=some (.lst [.bl false,.bl true,.bl false,.bl false,.bl false,.bl false]):=e5 ▸ keepE k_p4_4 hp5
    rw [show upd H4 p5 (.lst (_))=H5 from e5]
    refine ⟨_,_,_,_,rfl,rfl,k_p4_5,k_p5_5,by decide,fun p6 hp6=>?_⟩
    obtain ⟨H6,e6⟩:∃ H6,upd H5 p6 (.lst [.bl false,.bl true,.bl false,.bl false,.bl false,.bl false,.bl false,.bl false,.bl false])=H6:=⟨_,rfl⟩
    have hE6:H6 e=some (.ext (IsXD e (c 2) dv)):=e6 ▸ keepE hE5 hp6
    have sm6:Same H H6:=e6 ▸ same_add sm5 hp6
    have k_p6_6:H6 p6=some (.lst [.bl false,.bl true,.bl false,.bl false,.bl false,.bl false,.bl false,.bl false,.bl false]):=e6 ▸ upd_same
    have k_p1_6:H6 p1=some (.lst (List.map V.str ["road", "house", "table", "deed", "letter", "stand", "plan", "book", "manner", "many", "text", "row"])):=e6 ▸ keepE k_p1_5 hp6
    have k_p4_6:H6 p4=some (.lst [.bl false,.bl true,.bl false,.bl false,.bl false,.bl false]):=e6 ▸ keepE k_p4_5 hp6
    rw [show upd H5 p6 (.lst ([.bl false,.bl true,.bl false,.bl false,.bl false,.bl false] ++ [.bl false,.bl false,.bl false]))=H6 from e6]
    refine ⟨_,rfl,?_⟩
    refine ⟨_,rfl,e,_,_,_,_,false,rfl,rfl,hE6,T2.xc,T2.k 10 (by decide) (by decide),?_⟩
    refine ⟨_,rfl,e,_,_,_,_,false,rfl,rfl,hE6,T2.xc,T2.k 11 (by decide) (by decide),?_⟩
    refine ⟨_,rfl,e,_,_,_,_,false,rfl,rfl,hE6,T2.xc,T2.k 12 (by decide) (by decide),?_⟩
    refine ⟨by decide,fun p7 hp7=>?_⟩
    obtain ⟨H7,e7⟩:∃ H7,upd H6 p7 (.lst [.bl false,.bl false,.bl false])=H7:=⟨_,rfl⟩
    have hE7:H7 e=some (.ext (IsXD e (c 2) dv)):=e7 ▸ keepE hE6 hp7
    have sm7:Same H H7:=e7 ▸ same_add sm6 hp7
    have k_p7_7:H7 p7=some (.lst [.bl false,.bl false,.bl false]):=e7 ▸ upd_same
    have k_p1_7:H7 p1=some (.lst (List.map V.str ["road", "house", "table", "deed", "letter", "stand", "plan", "book", "manner", "many", "text", "row"])):=e7 ▸ keepE k_p1_6 hp7
    have k_p6_7:H7 p6=some (.lst [.bl false,.bl true,.bl false,.bl false,.bl false,.bl false,.bl false,.bl false,.bl false]):=e7 ▸ keepE k_p6_6 hp7
    rw [show upd H6 p7 (.lst (_))=H7 from e7]
    refine ⟨_,_,_,_,rfl,rfl,k_p6_7,k_p7_7,by decide,fun p8 hp8=>?_⟩
    obtain ⟨H8,e8⟩:∃ H8,upd H7 p8 (.lst [.bl false,.bl true,.bl false,.bl false,.bl false,.bl false,.bl false,.bl false,.bl false,.bl false,.bl false,.bl false])=H8:=⟨_,rfl⟩
    have hE8:H8 e=some (.ext (IsXD e (c 2) dv)):=e8 ▸ keepE hE7 hp8
    have sm8:Same H H8:=e8 ▸ same_add sm7 hp8
    have k_p8_8:H8 p8=some (.lst [.bl false,.bl true,.bl false,.bl false,.bl false,.bl false,.bl false,.bl false,.bl false,.bl false,.bl false,.bl false]):=e8 ▸ upd_same
    have k_p1_8:H8 p1=some (.lst (List.map V.str ["road", "house", "table", "deed", "letter", "stand", "plan", "book", "manner", "many", "text", "row"])):=e8 ▸ keepE k_p1_7 hp8
    have k_p6_8:H8 p6=some (.lst [.bl false,.bl true,.bl false,.bl false,.bl false,.bl false,.bl false,.bl false,.bl false]):=e8 ▸ keepE k_p6_7 hp8
    rw [show upd H7 p8 (.lst ([.bl false,.bl true,.bl false,.bl false,.bl false,.bl false,.bl false,.bl false,.bl false] ++ [.bl false,.bl false,.bl false]))=H8 from e8]
    refine ⟨_,rfl,?_⟩
    refine ⟨_,rfl,e,_,_,_,_,false,rfl,rfl,hE8,T2.xc,T2.k 13 (by decide) (by decide),?_⟩
    refine ⟨_,rfl,e,_,_,_,_,false,rfl,rfl,hE8,T2.xc,T2.k 14 (by decide) (by decide),?_⟩
    refine ⟨by decide,fun p9 hp9=>?_⟩
    obtain ⟨H9,e9⟩:∃ H9,upd H8 p9 (.lst [.bl false,.bl false])=H9:=⟨_,rfl⟩
    have hE9:H9 e=some (.ext (IsXD e (c 2) dv)):=e9 ▸ keepE hE8 hp9
    have sm9:Same H H9:=e9 ▸ same_add sm8 hp9
    have k_p9_9:H9 p9=some (.lst [.bl false,.bl false]):=e9 ▸ upd_same
    have k_p1_9:H9 p1=some (.lst (List.map V.str ["road", "house", "table", "deed", "letter", "stand", "plan", "book", "manner", "many", "text", "row"])):=e9 ▸ keepE k_p1_8 hp9
    have k_p8_9:H9 p8=some (.lst [.bl false,.bl true,.bl false,.bl false,.bl false,.bl false,.bl false,.bl false,.bl false,.bl false,.bl false,.bl false]):=e9 ▸ keepE k_p8_8 hp9
    rw [show upd H8 p9 (.lst (_))=H9 from e9]
    refine ⟨_,_,_,_,rfl,rfl,k_p8_9,k_p9_9,by decide,fun p10 hp10=>?_⟩
    obtain ⟨H10,e10⟩:∃ H10,upd H9 p10 (.lst [.bl false,.bl true,.bl false,.bl false,.bl false,.bl false,.bl false,.bl false,.bl false,.bl false,.bl false,.bl false,.bl false,.bl false])=H10:=⟨_,rfl⟩
    have hE10:H10 e=some (.ext (IsXD e (c 2) dv)):=e10 ▸ keepE hE9 hp10
    have sm10:Same H H10:=e10 ▸ same_add sm9 hp10
    have k_p10_10:H10 p10=some (.lst [.bl false,.bl true,.bl false,.bl false,.bl false,.bl false,.bl false,.bl false,.bl false,.bl false,.bl false,.bl false,.bl false,.bl false]):=e10 ▸ upd_same
    have k_p1_10:H10 p1=some (.lst (List.map V.str ["road", "house", "table", "deed", "letter", "stand", "plan", "book", "manner", "many", "text", "row"])):=e10 ▸ keepE k_p1_9 hp10
    have k_p8_10:H10 p8=some (.lst [.bl false,.bl true,.bl false,.bl false,.bl false,.bl false,.bl false,.bl false,.bl false,.bl false,.bl false,.bl false]):=e10 ▸ keepE k_p8_9 hp10
    rw [show upd H9 p10 (.lst ([.bl false,.bl true,.bl false,.bl false,.bl false,.bl false,.bl false,.bl false,.bl false,.bl false,.bl false,.bl false] ++ [.bl false,.bl false]))=H10 from e10]
    refine ⟨_,rfl,.inl ⟨rfl,_,.inl (.inl k_p10_10)⟩,_,[false,true,false,false,false,false,false,false,false,false,false,false,false,false],rfl,rfl,k_p10_10,rfl,_,rfl,iteF ?_⟩
    refine ⟨_,rfl,e,_,_,_,_,true,rfl,rfl,hE10,T2.xc,T2.ve,_,rfl,iteF ?_⟩
    refine ⟨_,rfl,?_⟩
    refine ⟨by decide,fun p11 hp11=>?_⟩
    obtain ⟨H11,e11⟩:∃ H11,upd H10 p11 (.lst (List.map V.str ["name", "short"]))=H11:=⟨_,rfl⟩
    have hE11:H11 e=some (.ext (IsXD e (c 2) dv)):=e11 ▸ keepE hE10 hp11
    have sm11:Same H H11:=e11 ▸ same_add sm10 hp11
    have k_p11_11:H11 p11=some (.lst (List.map V.str ["name", "short"])):=e11 ▸ upd_same
    have k_p1_11:H11 p1=some (.lst (List.map V.str ["road", "house", "table", "deed", "letter", "stand", "plan", "book", "manner", "many", "text", "row"])):=e11 ▸ keepE k_p1_10 hp11
    have k_p10_11:H11 p10=some (.lst [.bl false,.bl true,.bl false,.bl false,.bl false,.bl false,.bl false,.bl false,.bl false,.bl false,.bl false,.bl false,.bl false,.bl false]):=e11 ▸ keepE k_p10_10 hp11
    rw [show upd H10 p11 (.lst (List.map V.str ["name", "short"]))=H11 from e11]
    refine ⟨_,_,_,_,rfl,rfl,k_p1_11,k_p11_11,by decide,fun p12 hp12=>?_⟩
    obtain ⟨H12,e12⟩:∃ H12,upd H11 p12 (.lst (List.map V.str ["road", "house", "table", "deed", "letter", "stand", "plan", "book", "manner", "many", "text", "row"] ++ List.map V.str ["name", "short"]))=H12:=⟨_,rfl⟩
    have hE12:H12 e=some (.ext (IsXD e (c 2) dv)):=e12 ▸ keepE hE11 hp12
    have sm12:Same H H12:=e12 ▸ same_add sm11 hp12
    have k_p12_12:H12 p12=some (.lst (List.map V.str ["road", "house", "table", "deed", "letter", "stand", "plan", "book", "manner", "many", "text", "row"] ++ List.map V.str ["name", "short"])):=e12 ▸ upd_same
    have k_p1_12:H12 p1=some (.lst (List.map V.str ["road", "house", "table", "deed", "letter", "stand", "plan", "book", "manner", "many", "text", "row"])):=e12 ▸ keepE k_p1_11 hp12
    have k_p10_12:H12 p10=some (.lst [.bl false,.bl true,.bl false,.bl false,.bl false,.bl false,.bl false,.bl false,.bl false,.bl false,.bl false,.bl false,.bl false,.bl false]):=e12 ▸ keepE k_p10_11 hp12
    have k_p11_12:H12 p11=some (.lst (List.map V.str ["name", "short"])):=e12 ▸ keepE k_p11_11 hp12
    rw [show upd H11 p12 (.lst (List.map V.str ["road", "house", "table", "deed", "letter", "stand", "plan", "book", "manner", "many", "text", "row"] ++ List.map V.str ["name", "short"]))=H12 from e12]
    refine ⟨_,rfl,.inl ⟨rfl,_,.inl (.inl k_p10_12)⟩,_,[false,true,false,false,false,false,false,false,false,false,false,false,false,false],1,rfl,rfl,k_p10_12,by decide,rfl,noB _ _ (by decide) (by decide),?_⟩
    refine ⟨_,_,_,_,rfl,rfl,.inl (.inl k_p12_12),rfl,?_⟩
    exact hQ _ sm12
def F__law_e_word:FN:=fun ps st=>match F__law_e_door ps st with
  | .ok v st1=>.ok (.str "") st1
  | .exc x st1=>if x.cls = "NoBook" then .ok (.str "book") st1 else if x.cls = "NoHouse" then .ok (.str "house") st1 else .stuck
  | .stuck=>.stuck
theorem sc__law_e_word:FnScope ["way", "book", "some", "caught", "e"] ["way", "book", "some"] (Q7 s__law_e_word):=⟨rfl,rfl,rfl,by decide +kernel,rfl,by decide +kernel,by decide +kernel⟩
theorem ok__law_e_word {f:Addr} {fd:FuncData} {c:Nat->Addr} (F:Fun K "_law_e_word" "_law_e_word" s__law_e_word f fd) (T:Txt mg) (Nm:Nms mg c) (T8:TgtS K c 8) (T2:TgtS K c 2) (D__law_e_door:DefS P w K mg base 10 "_law_e_door" 3 F__law_e_door) (D__law_e_kind:DefX P w K mg base 1 "_law_e_kind" ["caught"] (spKd c)):FnOk P w K mg base (CXD P w) 11 f fd ["way", "book", "some"] (spF mg 3 F__law_e_word):=by
  obtain ⟨fR,fdR,psR,FR,mR,kR,bR,lR⟩:=D__law_e_door.ex
  obtain ⟨fX,fdX,FX,mX,kX,bX⟩:=D__law_e_kind.ex
  refine Fun.okD (k:=10) F sc__law_e_word (fun vs H Q E h=>h.1) fun cdv A outer s H vs Q E hr hsp=>?_
  obtain ⟨hl,ρ,st0,pvs,R,rl,hA⟩:=hsp
  refine ⟨_,pss_cons (ps_set (i:=3) sc__law_e_word.nd rfl (Or.inl rfl) pe_non)
      (pss_cons (ps_tryEDa FR (hr.mono (by decide)) mR kR bR (pa_cons (pv 0) (pa_cons (pv 1) (pa_cons (pv 2) pa_nil))) sc__law_e_word.nd (i:=4) rfl rfl (fun e=>pss_one (ps_set (i:=3) sc__law_e_word.nd rfl (Or.inl rfl) (pv 4))) Nm.m0)
      (pss_cons (ps_if (pt_cmpR op_isN (pv 3) pe_non (nomark _)) (pss_one (ps_ret pe_str)) pss_nil)
      (pss_one (ps_ret (pe_call (x := "_law_e_kind") (E:=E) FX (hr.mono (by decide)) (by rfl) mX kX bX .nil Qd (pa_cons (pv 3) pa_nil)))))),?_⟩
  match vs,hl with
  | [v0,v1,v2],hl=>
  refine ⟨_,rfl,_,rfl,_,rfl,  rfl,ρ,st0,pvs,R,rl,?_⟩
  unfold F__law_e_word at hA
  cases hr:F__law_e_door pvs st0 with
  | ok a st1=>
    rw [hr] at hA
    exact fun H1 ρ1 x1 R1 v r=>⟨_,rfl,rfl,_,rfl,iteT (hA H1 ρ1 x1 R1 _ rfl)⟩
  | stuck=>
    rw [hr] at hA; exact hA.elim
  | exc x st1=>
    rw [hr] at hA
    dsimp only at hA
    by_cases hx8:x.cls = "NoBook"
    · rw [if_pos hx8] at hA
      intro C dv H1 ρ1 hm x1 R1 fs
      rw [hx8,Nm.m8] at hm
      cases hm
      refine ⟨_,rfl,T8.ex,fun e he=>?_⟩
      have x2:Ext H1 ρ1 (upd H1 e (.ext (IsXD e (c 8) dv))) ρ1:=Ext.add he
      have R2:=R1.add (o:=.ext (IsXD e (c 8) dv)) he
      refine ⟨_,rfl,_,rfl,rfl,_,rfl,iteF ?_⟩
      refine ⟨_,rfl,e,dv,rfl,.inl ⟨upd_same,fun H2 sm=>hA _ _ ((x1.trans x2).trans (Ext.same sm)) (R2.same sm) _ rfl⟩⟩
    · rw [if_neg hx8] at hA
      by_cases hx2:x.cls = "NoHouse"
      · rw [if_pos hx2] at hA
        intro C dv H1 ρ1 hm x1 R1 fs
        rw [hx2,Nm.m2] at hm
        cases hm
        refine ⟨_,rfl,T2.ex,fun e he=>?_⟩
        have x2:Ext H1 ρ1 (upd H1 e (.ext (IsXD e (c 2) dv))) ρ1:=Ext.add he
        have R2:=R1.add (o:=.ext (IsXD e (c 2) dv)) he
        refine ⟨_,rfl,_,rfl,rfl,_,rfl,iteF ?_⟩
        refine ⟨_,rfl,e,dv,rfl,.inr (⟨upd_same,fun H2 sm=>hA _ _ ((x1.trans x2).trans (Ext.same sm)) (R2.same sm) _ rfl⟩)⟩
      · rw [if_neg hx2] at hA
        exact hA.elim
def e__law_e_looks_right_1:ME:=(mCallF 2 F__law_e_hit (Q4 (Q5 0) (Q4 (Q5 1) Qe)))
def m__law_e_looks_right : MS := (mSeqS (mSet 3 (mCall (cBls fun ns => .bl (ns.all id)) (Q4 (mVal (mCompN [none, some 1] (gaName 0) (mSeq (mOp oIx (Q5 0) (mC (.int 1)))) mTrue e__law_e_looks_right_1)) Qe)))
    (mSeqS (mSet 4 (mAnd (mOp (oIn false) (Q5 2) (mOp oIx (Q5 0) (mC (.int 1)))) (mCallF 2 F__law_e_within (Q4 (Q5 2) (Q4 (Q5 1) Qe)))))
    (mSeqS (mSet 5 (mCallF 2 F_is_stuck (Q4 (Q5 0) (Q4 (Q5 1) Qe))))
    (mSeqS (mIfS (tOrM (tNotM (toB (mIsI "bool" (Q5 5)))) (toB (mOp oNe (Q5 5) (Q5 3)))) (mRet (mC (.bl false))) mNext)
    (mSeqS (mSet 5 (mCallF 3 F_is_blind (Q4 (Q5 0) (Q4 (Q5 1) (Q4 (Q5 2) Qe)))))
    (mRet (mAnd (mIsI "bool" (Q5 5)) (mOp oEq (Q5 5) (Q5 4)))))))))
def F__law_e_looks_right:FN:=callF m__law_e_looks_right 6
theorem sc__law_e_looks_right:FnScope ["book", "gone", "one", "stuck", "blind", "found"] ["book", "gone", "one"] (Q7 s__law_e_looks_right):=⟨rfl,rfl,rfl,by decide +kernel,rfl,by decide +kernel,by decide +kernel⟩
theorem ok__law_e_looks_right {f:Addr} {fd:FuncData} (F:Fun K "_law_e_looks_right" "_law_e_looks_right" s__law_e_looks_right f fd) (T:Txt mg)  (D__law_e_hit:DefS P w K mg base 1 "_law_e_hit" 2 F__law_e_hit) (D__law_e_within:DefS P w K mg base 1 "_law_e_within" 2 F__law_e_within) (D_is_stuck:DefS P w K mg base 9 "is_stuck" 2 F_is_stuck) (D_is_blind:DefS P w K mg base 9 "is_blind" 3 F_is_blind):FnOk P w K mg base (CXD P w) 10 f fd ["book", "gone", "one"] (spF mg 3 F__law_e_looks_right):=by
  refine fun_ok2 (k:=9) (m:=m__law_e_looks_right) F sc__law_e_looks_right rfl rfl rfl fun cdv A outer s H E hr=>?_
  exact (Qa (ss_set 3 sc__law_e_looks_right.nd (se_callB (cs_all rfl) rfl T.b_all boot_all (Q1 (se_val (sn_comp [none,some 1] ["each", "gone"] rfl (si_seq (se_ix (Q2 0) Q9)) (fun _ _ _ _ _=>(sg_name (i:=0) (show (["each", "gone"]:List Str).Nodup by decide +kernel))) (fun _ _ _ _ _=>(se_call D__law_e_hit (hr.mono (by decide)) pass00D rfl (Q1 (Q2 0) (Q1 (Q2 1) Q6)))) (fun _ _ _ _ _=>sts_nil) free_name)) Q6)))
    (Qa (ss_set 4 sc__law_e_looks_right.nd (se_and (se_cmp (os_in hr.units) (Q2 2) (se_ix (Q2 0) Q9)) (se_one (se_call D__law_e_within (hr.mono (by decide)) Qd rfl (Q1 (Q2 2) (Q1 (Q2 1) Q6))))))
    (Qa (ss_set 5 sc__law_e_looks_right.nd (se_call D_is_stuck (hr.mono (by decide)) Qd rfl (Q1 (Q2 0) (Q1 (Q2 1) Q6))))
    (Qa (ss_if (SimW.t (sw_or (st_not (st_val (se_isi (T := "bool") (by decide) (Q2 5) rfl T.b_isinstance rfl T.b_bool boot_bool))) (sw_or1 (st_cmp (os_ne hr.units) (Q2 5) (Q2 3))))) (sb_one (ss_ret se_bl)) sb_nil)
    (Qa (ss_set 5 sc__law_e_looks_right.nd (se_call D_is_blind (hr.mono (by decide)) Qd rfl (Q1 (Q2 0) (Q1 (Q2 1) (Q1 (Q2 2) Q6)))))
    (sb_one (ss_ret (se_and (se_isi (T := "bool") (by decide) (Q2 5) rfl T.b_isinstance rfl T.b_bool boot_bool) (se_one (se_cmp (os_eq hr.units) (Q2 5) (Q2 4)))))))))))
def b__law_e_refusals_right_2:MS:=(mIfS (tOrM (toB (mOp oNe (mCallF 3 F__law_e_word (Q4 (Q5 6) (Q4 (Q5 7) (Q4 (Q5 1) Qe)))) (mC (.str "book")))) (toB (mOp oNe (mCallF 3 F__law_e_word (Q4 (Q5 6) (Q4 (Q5 7) (Q4 (mTup (Q4 (Q5 2) Qe)) Qe)))) (mC (.str "book"))))) (mRet (mC (.bl false))) mNext)
def b__law_e_refusals_right_3:MS:=(mIfS (toB (mOp oNe (mCallF 3 F__law_e_word (Q4 (Q5 6) (Q4 (Q5 0) (Q4 (Q5 7) Qe)))) (mC (.str "house")))) (mRet (mC (.bl false))) mNext)
def b__law_e_refusals_right_1 : MS := (mSeqS (mFor (gaName 7) (mSeq (Q5 4)) b__law_e_refusals_right_2)
    (mSeqS (mIfS (toB (mOp oLt (Q5 6) (mC (.int 4)))) (mFor (gaName 7) (mSeq (Q5 5)) b__law_e_refusals_right_3) mNext)
    (mIfS (toB (mOp oNe (mCallF 3 F__law_e_word (Q4 (Q5 6) (Q4 (Q5 0) (Q4 (Q5 1) Qe)))) (mC (.str "")))) (mRet (mC (.bl false))) mNext)))
def m__law_e_refusals_right : MS := (mSeqS (mAsg (gaTup (gaCons (gaName 2) (gaCons (gaName 3) gaNil))) (Q5 0))
    (mSeqS (mSet 4 (mLst (Q4 (mTup (Q4 (Q5 2) (Q4 (mOp oAdd (mRevT (Q5 3) (mNeg (mC (.int 1)))) (mSl (Q5 3) mNoPart (mPart (mC (.int 1))))) Qe))) (Q4 (mTup (Q4 (Q5 2) (Q4 (mTup Qe) Qe))) (Q4 (mTup (Q4 (Q5 2) (Q4 (mOp oAdd (Q5 3) (mTup (Q4 (mTup Qe) Qe))) Qe))) (Q4 (mTup (Q4 (mC (.int 10)) (Q4 (Q5 3) Qe))) (Q4 (mTup (Q4 (mC (.int 0)) (Q4 (Q5 3) Qe))) Qe)))))))
    (mSeqS (mSet 4 (mOp oAdd (Q5 4) (mLst (Q4 (mTup (Q4 (Q5 2) (Q4 (mTup (Q4 (mTup (Q4 (Q5 2) Qe)) Qe)) Qe))) (Q4 (mC .non) (Q4 (Q5 3) (Q4 (mTup Qe) Qe)))))))
    (mSeqS (mSet 5 (mLst (Q4 (mTup (Q4 (Q5 2) Qe)) (Q4 (mTup (Q4 (mNeg (mC (.int 1))) Qe)) (Q4 (mTup (Q4 (mC (.int 0)) (Q4 (mC (.int 0)) Qe))) (Q4 (mTup (Q4 (mC (.int 1)) (Q4 (mC (.int 0)) Qe))) (Q4 (mTup (Q4 (mC (.int 0)) (Q4 (Q5 2) Qe))) (Q4 (mTup (Q4 (mOp oPow (mC (.int 10)) (mC (.int 20))) Qe)) (Q4 (mTup (Q4 (mNeg (Q5 2)) Qe)) Qe)))))))))
    (mSeqS (mFor (gaName 6) (mRange1 (Q4 (mC (.int 6)) Qe)) b__law_e_refusals_right_1)
    (mRet (mAnd (mOp oEq (mCallF 3 F__law_e_word (Q4 (mC (.int 1)) (Q4 (Q5 0) (Q4 (mTup Qe) Qe)))) (mC (.str "house"))) (mOp oEq (mCallF 3 F__law_e_word (Q4 (mC (.int 0)) (Q4 (Q5 0) (Q4 (mTup Qe) Qe)))) (mC (.str ""))))))))))
def F__law_e_refusals_right:FN:=callF m__law_e_refusals_right 8
theorem sc__law_e_refusals_right:FnScope ["book", "some", "n", "sets", "bad_books", "bad_some", "way", "bad"] ["book", "some"] (Q7 s__law_e_refusals_right):=⟨rfl,rfl,rfl,by decide +kernel,rfl,by decide +kernel,by decide +kernel⟩
theorem ok__law_e_refusals_right {f:Addr} {fd:FuncData} (F:Fun K "_law_e_refusals_right" "_law_e_refusals_right" s__law_e_refusals_right f fd) (T:Txt mg)  (D__law_e_word:DefS P w K mg base 11 "_law_e_word" 3 F__law_e_word):FnOk P w K mg base (CXD P w) 12 f fd ["book", "some"] (spF mg 2 F__law_e_refusals_right):=by
  refine fun_ok2 (k:=11) (m:=m__law_e_refusals_right) F sc__law_e_refusals_right rfl rfl rfl fun cdv A outer s H E hr=>?_
  exact (Qa (ss_asg (Q2 0) (sg_tup rfl (sgs_cons (sg_name (i:=2) sc__law_e_refusals_right.nd) (sgs_cons (sg_name (i:=3) sc__law_e_refusals_right.nd) sgs_nil))))
    (Qa (ss_set 4 sc__law_e_refusals_right.nd (se_lst (Q1 (se_tup (Q1 (Q2 2) (Q1 (se_op os_add (se_revT (Q2 3) (se_neg Q9)) (se_slice (Q2 3) so_none (so_some Q9))) Q6))) (Q1 (se_tup (Q1 (Q2 2) (Q1 (se_tup Q6) Q6))) (Q1 (se_tup (Q1 (Q2 2) (Q1 (se_op os_add (Q2 3) (se_tup (Q1 (se_tup Q6) Q6))) Q6))) (Q1 (se_tup (Q1 Q9 (Q1 (Q2 3) Q6))) (Q1 (se_tup (Q1 Q9 (Q1 (Q2 3) Q6))) Q6)))))))
    (Qa (ss_set 4 sc__law_e_refusals_right.nd (se_op os_add (Q2 4) (se_lst (Q1 (se_tup (Q1 (Q2 2) (Q1 (se_tup (Q1 (se_tup (Q1 (Q2 2) Q6)) Q6)) Q6))) (Q1 se_non (Q1 (Q2 3) (Q1 (se_tup Q6) Q6)))))))
    (Qa (ss_set 5 sc__law_e_refusals_right.nd (se_lst (Q1 (se_tup (Q1 (Q2 2) Q6)) (Q1 (se_tup (Q1 (se_neg Q9) Q6)) (Q1 (se_tup (Q1 Q9 (Q1 Q9 Q6))) (Q1 (se_tup (Q1 Q9 (Q1 Q9 Q6))) (Q1 (se_tup (Q1 Q9 (Q1 (Q2 2) Q6))) (Q1 (se_tup (Q1 (se_op os_pow Q9 Q9) Q6)) (Q1 (se_tup (Q1 (se_neg (Q2 2)) Q6)) Q6)))))))))
    (Qa (ss_for PassesOwn.leaving rfl (si_range1 rfl T.b_range (Q1 Q9 Q6)) (sg_name (i:=6) sc__law_e_refusals_right.nd) (Qa (ss_for PassesOwn.leaving rfl (si_seq (Q2 4)) (sg_name (i:=7) sc__law_e_refusals_right.nd) (sb_one (ss_if (SimW.t (sw_or (st_cmp (os_ne hr.units) (se_call D__law_e_word (hr.mono (by decide)) Qd rfl (Q1 (Q2 6) (Q1 (Q2 7) (Q1 (Q2 1) Q6)))) se_str) (sw_or1 (st_cmp (os_ne hr.units) (se_call D__law_e_word (hr.mono (by decide)) Qd rfl (Q1 (Q2 6) (Q1 (Q2 7) (Q1 (se_tup (Q1 (Q2 2) Q6)) Q6)))) se_str)))) (sb_one (ss_ret se_bl)) sb_nil)))
    (Qa (ss_if (st_cmp (os_lt hr.units) (Q2 6) Q9) (sb_one (ss_for PassesOwn.leaving rfl (si_seq (Q2 5)) (sg_name (i:=7) sc__law_e_refusals_right.nd) (sb_one (ss_if (st_cmp (os_ne hr.units) (se_call D__law_e_word (hr.mono (by decide)) Qd rfl (Q1 (Q2 6) (Q1 (Q2 0) (Q1 (Q2 7) Q6)))) se_str) (sb_one (ss_ret se_bl)) sb_nil)))) sb_nil)
    (sb_one (ss_if (st_cmp (os_ne hr.units) (se_call D__law_e_word (hr.mono (by decide)) Qd rfl (Q1 (Q2 6) (Q1 (Q2 0) (Q1 (Q2 1) Q6)))) se_str) (sb_one (ss_ret se_bl)) sb_nil)))))
    (sb_one (ss_ret (se_and (se_cmp (os_eq hr.units) (se_call D__law_e_word (hr.mono (by decide)) Qd rfl (Q1 Q9 (Q1 (Q2 0) (Q1 (se_tup Q6) Q6)))) se_str) (se_one (se_cmp (os_eq hr.units) (se_call D__law_e_word (hr.mono (by decide)) Qd rfl (Q1 Q9 (Q1 (Q2 0) (Q1 (se_tup Q6) Q6)))) se_str))))))))))
def b_law_3:MS:=(mIfS (tNotM (toB (mCallF 3 F__law_e_looks_right (Q4 (Q5 3) (Q4 (Q5 8) (Q4 (Q5 9) Qe)))))) (mRet (mC (.bl false))) mNext)
def b_law_2:MS:=(mFor (gaName 9) (mSeq (mLst (Q4 (Q5 6) (Q4 (Q5 7) (Q4 (mOp oAdd (Q5 6) (mTup (Q4 (Q5 4) Qe))) (Q4 (mTup Qe) (Q4 (mOp oIx (Q5 5) (mC (.int 0))) Qe))))))) b_law_3)
def b_law_1 : MS := (mSeqS (mIfS (tAndM (toB (mOp (oI fun a b => .bl (decide (b < a))) (Q5 2) (mC (.int 1)))) (toB (mOp (oI fun a b => .bl (decide (b <= a))) (mOp oIx (Q5 1) (mC (.int 1))) (mCall cLen (Q4 (Q5 0) Qe))))) mBreak mNext)
    (mSeqS (mSet 3 (mCallF 2 F__law_e_book (Q4 (Q5 1) (Q4 (mC (.int 6)) Qe))))
    (mSeqS (mAsg (gaTup (gaCons (gaName 4) (gaCons (gaName 5) gaNil))) (Q5 3))
    (mSeqS (mSet 6 (mOp oIx (Q5 5) (mCallF 2 F__law_e_digit (Q4 (Q5 1) (Q4 (mCall cLen (Q4 (Q5 5) Qe)) Qe)))))
    (mSeqS (mSet 7 (mCallF 2 F__law_e_subset (Q4 (Q5 1) (Q4 (Q5 4) Qe))))
    (mSeqS (mFor (gaName 8) (mSeq (mLst (Q4 (mCallF 2 F__law_e_subset (Q4 (Q5 1) (Q4 (Q5 4) Qe))) (Q4 (Q5 6) (Q4 (Q5 7) (Q4 (mTup Qe) (Q4 (mTR (Q5 4)) Qe))))))) b_law_2)
    (mIfS (tNotM (toB (mCallF 2 F__law_e_refusals_right (Q4 (Q5 3) (Q4 (Q5 6) Qe))))) (mRet (mC (.bl false))) mNext)))))))
def m_law : MS := (mSeqS (mSet 1 (mTrk (mLstN (Q4 (Q5 0) (Q4 (mC (.int 0)) (Q4 (mC (.int 0)) Qe))))))
    (mSeqS (mFor (gaName 2) (mRange1 (Q4 (mC (.int 4)) Qe)) b_law_1)
    (mRet (mC (.bl true)))))
def F_law:FN:=callF m_law 10
theorem sc_law:FnScope ["script", "tape", "k", "book", "n", "sets", "own", "other", "gone", "one"] ["script"] (Q7 s_law):=⟨rfl,rfl,rfl,by decide +kernel,rfl,by decide +kernel,by decide +kernel⟩
theorem ok_law {f:Addr} {fd:FuncData} (F:Fun K "law" "law" s_law f fd) (T:Txt mg)  (D__law_e_book:DefS P w K mg base 4 "_law_e_book" 2 F__law_e_book) (D__law_e_digit:DefS P w K mg base 2 "_law_e_digit" 2 F__law_e_digit) (D__law_e_subset:DefS P w K mg base 3 "_law_e_subset" 2 F__law_e_subset) (D__law_e_looks_right:DefS P w K mg base 10 "_law_e_looks_right" 3 F__law_e_looks_right) (D__law_e_refusals_right:DefS P w K mg base 12 "_law_e_refusals_right" 2 F__law_e_refusals_right):FnOk P w K mg base (CXD P w) 13 f fd ["script"] (spF mg 1 F_law):=by
  refine fun_ok2 (k:=12) (m:=m_law) F sc_law rfl rfl rfl fun cdv A outer s H E hr=>?_
  exact (Qa (ss_set 1 sc_law.nd (se_trk (sn_lst (Q1 (Q2 0) (Q1 Q9 (Q1 Q9 Q6))))))
    (Qa (ss_for PassesOwn.leaving rfl (si_range1 rfl T.b_range (Q1 Q9 Q6)) (sg_name (i:=2) sc_law.nd) (Qa (ss_if (SimW.t (sw_and (st_cmp os_gt (Q2 2) Q9) (sw_and1 (st_cmp os_ge (se_ix (Q2 1) Q9) (se_callB cs_len rfl T.b_len PySem.boot_len (Q1 (Q2 0) Q6)))))) (sb_one ss_break) sb_nil)
    (Qa (ss_set 3 sc_law.nd (se_call D__law_e_book (hr.mono (by decide)) Qd rfl (Q1 (Q2 1) (Q1 Q9 Q6))))
    (Qa (ss_asg (Q2 3) (sg_tup rfl (sgs_cons (sg_name (i:=4) sc_law.nd) (sgs_cons (sg_name (i:=5) sc_law.nd) sgs_nil))))
    (Qa (ss_set 6 sc_law.nd (se_ix (Q2 5) (se_call D__law_e_digit (hr.mono (by decide)) Qd rfl (Q1 (Q2 1) (Q1 (se_callB cs_len rfl T.b_len PySem.boot_len (Q1 (Q2 5) Q6)) Q6)))))
    (Qa (ss_set 7 sc_law.nd (se_call D__law_e_subset (hr.mono (by decide)) Qd rfl (Q1 (Q2 1) (Q1 (Q2 4) Q6))))
    (Qa (ss_for PassesOwn.leaving rfl (si_seq (se_lst (Q1 (se_call D__law_e_subset (hr.mono (by decide)) Qd rfl (Q1 (Q2 1) (Q1 (Q2 4) Q6))) (Q1 (Q2 6) (Q1 (Q2 7) (Q1 (se_tup Q6) (Q1 (se_trange (Q2 4) rfl rfl T.b_tuple rfl T.b_range) Q6))))))) (sg_name (i:=8) sc_law.nd) (sb_one (ss_for PassesOwn.leaving rfl (si_seq (se_lst (Q1 (Q2 6) (Q1 (Q2 7) (Q1 (se_op os_add (Q2 6) (se_tup (Q1 (Q2 4) Q6))) (Q1 (se_tup Q6) (Q1 (se_ix (Q2 5) Q9) Q6))))))) (sg_name (i:=9) sc_law.nd) (sb_one (ss_if (st_not (st_val (se_call D__law_e_looks_right (hr.mono (by decide)) Qd rfl (Q1 (Q2 3) (Q1 (Q2 8) (Q1 (Q2 9) Q6)))))) (sb_one (ss_ret se_bl)) sb_nil)))))
    (sb_one (ss_if (st_not (st_val (se_call D__law_e_refusals_right (hr.mono (by decide)) Qd rfl (Q1 (Q2 3) (Q1 (Q2 6) Q6))))) (sb_one (ss_ret se_bl)) sb_nil)))))))))
    (sb_one (ss_ret se_bl))))
end
end Lw
namespace Lw
open PySem PySem.Spec L2 Sm
theorem emod_lt (a:Int) {b:Int} (h:0 < b):0<=a % b/\a % b < b:=⟨Int.emod_nonneg a (by omega),Int.emod_lt_of_pos a h⟩
theorem modN (x:Int) {n:Nat} (h:1<=n):∃ k:Nat,k < n/\x % (n:Int)=(k:Int):=by
  have:=emod_lt x (b:=(n:Int)) (by omega)
  exact ⟨(x % (n:Int)).toNat,by omega,by omega⟩
theorem stir_ok (c:Int) (p:Nat) (st:Q0):∃ z:Int,F__law_e_stirred [.int c,.int p] st=.ok (.int z) st:=by
  by_cases q:1000000000000000000<=c
  · refine ⟨c,?_⟩
    simp -implicitDefEqProofs [F__law_e_stirred,callF,m__law_e_stirred,q]
  · obtain ⟨f,hf⟩:∃ f,(c % 998244353 * 51749 + p * 7919 + 3) % 1000000007=f:=⟨_,rfl⟩
    have f1:=emod_lt (c % 998244353 * 51749 + p * 7919 + 3) (b:=1000000007) (by decide)
    rw [hf] at f1
    obtain ⟨g,hg⟩:∃ g:Int,(f * f + 32749 * f + p + 5) % 2147483629=g:=⟨_,rfl⟩
    have g1:=emod_lt (f * f + 32749 * f + p + 5) (b:=2147483629) (by decide)
    rw [hg] at g1
    have fb:-18446744073709551616 < f/\f < 18446744073709551616:=by omega
    have gb:-18446744073709551616 < g/\g < 18446744073709551616:=by omega
    refine ⟨g * 2147483587 + (g * g + 61 * p + f) % 2147483587,?_⟩
    simp -implicitDefEqProofs [F__law_e_stirred,callF,m__law_e_stirred,q,hf,hg,fb,gb]
def TapeAt (S:Q0) (L:Nat) (ns:List Int):Prop:=∃ (p:Nat) (c:Int),S[L]?=some (.lst [.fro (ns.map .int),.int p,.int c])
theorem TapeAt.lt {S:Q0} {L:Nat} {ns:List Int} (h:TapeAt S L ns):L < S.length:=let ⟨_,_,e⟩:=h; (List.getElem?_eq_some_iff.mp e).1
theorem tape_set {S:Q0} {L:Nat} {a b c x:PV} (h:S[L]?=some (.lst [a,b,c])):setIx S (.ref L) (.int 1) x=some (S.set L (.lst [a,x,c]))/\setIx S (.ref L) (.int 2) x=some (S.set L (.lst [a,b,x])):=by
  unfold setIx
  simp only [h]
  exact ⟨rfl,rfl⟩
theorem tape_ix {S:Q0} {L:Nat} {a b c:PV} (h:S[L]?=some (.lst [a,b,c])):oIx S (.ref L) (.int 0)=.ok a S/\oIx S (.ref L) (.int 1)=.ok b S/\oIx S (.ref L) (.int 2)=.ok c S:=by
  have hV:ListAt S (.ref L) [a,b,c]:=.inr (.inr ⟨L,rfl,h⟩)
  rw [hV.ix,hV.ix,hV.ix]
  exact ⟨rfl,rfl,rfl⟩
theorem cell_ok (ns:List Int) (p:Nat) {S:Q0} {L:Nat} {c:PV} (hS:S[L]?=some (.lst [.fro (ns.map .int),.int p,c])) (a1 a4:Option PV):∃ z:Int,(mIfS (toB (mOp oLt (Q5 2) (mCall cLen (Q4 (mOp oIx (Q5 0) (mC (.int 0))) Qe)))) (mSet 3 (mOp oIx (mOp oIx (Q5 0) (mC (.int 0))) (Q5 2))) (mIfS (toB (mOp (oI fun a b=>.bl (decide (b < a))) (mCall cLen (Q4 (mOp oIx (Q5 0) (mC (.int 0))) Qe)) (mC (.int 0)))) (mSet 3 (mOp oAdd (mOp oMod (mOp oIx (mOp oIx (Q5 0) (mC (.int 0))) (mOp oMod (mOp oMul (Q5 2) (mC (.int 3))) (mCall cLen (Q4 (mOp oIx (Q5 0) (mC (.int 0))) Qe)))) (mOp oPow (mC (.int 10)) (mC (.int 9)))) (mOp oMul (Q5 2) (mC (.int 1000000))))) mNext)) [some (.ref L),a1,some (.int p),some (.int p),a4] S=.nx [some (.ref L),a1,some (.int p),some (.int z),a4] S:=by
  obtain ⟨i0,_,_⟩:=tape_ix hS
  have hl:(ns.map PV.int).length=ns.length:=List.length_map _
  by_cases q:p < ns.length
  · have e:atI (ns.map PV.int) (p:Int)=some (.int (ns.getD p 0)):=by rw [atI_map,Sm.atI_get (getD_some q 0)]; rfl
    refine ⟨ns.getD p 0,?_⟩
    generalize ns.getD p 0=x at *
    generalize ns.length=len at *
    generalize ns.map PV.int=nv at *
    simp -implicitDefEqProofs [i0,hl,q,e,-oIx_r]
  · by_cases q2:ns.length=0
    · refine ⟨p,?_⟩
      generalize ns.map PV.int=nv at *
      rw [q2] at hl
      have q0:¬ (p:Int) < 0:=by omega
      simp -implicitDefEqProofs [i0,hl,q0,-oIx_r]
    · have hp:0 < ns.length:=by omega
      obtain ⟨m,hm,em⟩:=modN ((p:Int) * 3) hp
      have e:atI (ns.map PV.int) (m:Int)=some (.int (ns.getD m 0)):=by rw [atI_map,Sm.atI_get (getD_some hm 0)]; rfl
      refine ⟨ns.getD m 0 % 1000000000 + p * 1000000,?_⟩
      have q':¬ (p:Int) < (ns.length:Int):=by omega
      generalize ns.getD m 0=x at *
      generalize ns.length=len at *
      generalize ns.map PV.int=nv at *
      simp -implicitDefEqProofs [i0,hl,q,q',hp,em,e,-oIx_r]
theorem fin_eq {st st':Q0} (h:st'.length=st.length) (d:Int):fin st (.int d) st'=.ok (.int d) st':=by
  unfold fin
  by_cases q:st <+: st'
  · rw [if_pos q]
    have:st=st':=q.eq_of_length h.symm
    rw [<- this,fz]; rfl
  · rw [if_neg q]
structure Mv (L:Nat) (S S':Q0):Prop where
  len:S'.length=S.length
  keep:∀ t,t ≠ L->S'[t]?=S[t]?
theorem digit_ok {ns:List Int} {S:Q0} {L:Nat} (T:TapeAt S L ns) (m:Nat) (h1:1<=m) (hm:m < 1000000):∃ (d:Nat) (S':Q0),d < m/\TapeAt S' L ns/\Mv L S S'/\F__law_e_digit [.ref L,.int m] S=.ok (.int d) S':=by
  obtain ⟨p,c,hS⟩:=T
  have hL:=(List.getElem?_eq_some_iff.mp hS).1
  obtain ⟨p1,c1,S1,a2,a3,hS1,M1,e1⟩:∃ (p1:Nat) (c1:Int) (S1:Q0) (a2 a3:Option PV),S1[L]?=some (.lst [.fro (ns.map .int),.int p1,.int c1])/\Mv L S S1/\(mIfS (toB (mOp oLt (mOp oIx (Q5 0) (mC (.int 2))) (Q5 1))) (mSeqS (mSet 2 (mOp oIx (Q5 0) (mC (.int 1))))
    (mSeqS (mSet 3 (Q5 2))
    (mSeqS (mIfS (toB (mOp oLt (Q5 2) (mCall cLen (Q4 (mOp oIx (Q5 0) (mC (.int 0))) Qe)))) (mSet 3 (mOp oIx (mOp oIx (Q5 0) (mC (.int 0))) (Q5 2))) (mIfS (toB (mOp (oI fun a b=>.bl (decide (b < a))) (mCall cLen (Q4 (mOp oIx (Q5 0) (mC (.int 0))) Qe)) (mC (.int 0)))) (mSet 3 (mOp oAdd (mOp oMod (mOp oIx (mOp oIx (Q5 0) (mC (.int 0))) (mOp oMod (mOp oMul (Q5 2) (mC (.int 3))) (mCall cLen (Q4 (mOp oIx (Q5 0) (mC (.int 0))) Qe)))) (mOp oPow (mC (.int 10)) (mC (.int 9)))) (mOp oMul (Q5 2) (mC (.int 1000000))))) mNext))
    (mSeqS (mSetIx (Q5 0) (mC (.int 1)) (mOp oAdd (Q5 2) (mC (.int 1))))
    (mSetIx (Q5 0) (mC (.int 2)) (mCallF 2 F__law_e_stirred (Q4 (Q5 3) (Q4 (Q5 2) Qe)))))))) mNext) [some (.ref L),some (.int m),none,none,none] S=.nx [some (.ref L),some (.int m),a2,a3,none] S1:=by
    obtain ⟨i0,i1,i2⟩:=tape_ix hS
    by_cases q:c < (m:Int)
    · obtain ⟨z,ez⟩:=cell_ok ns p hS (some (.int m)) none
      obtain ⟨t1,_⟩:=tape_set (x:=.int ((p:Int) + 1)) hS
      obtain ⟨S2,hS2⟩:∃ S2,S.set L (.lst [.fro (ns.map .int),.int ((p:Int) + 1),.int c])=S2:=⟨_,rfl⟩
      have h2:S2[L]?=some (.lst [.fro (ns.map .int),.int ((p:Int) + 1),.int c]):=by rw [<- hS2,List.getElem?_set_self hL]
      rw [hS2] at t1
      obtain ⟨y,ey⟩:=stir_ok z p S2
      obtain ⟨_,t2⟩:=tape_set (x:=.int y) h2
      have hL2:=(List.getElem?_eq_some_iff.mp h2).1
      refine ⟨p + 1,y,S2.set L (.lst [.fro (ns.map .int),.int ((p:Int) + 1),.int y]),some (.int p),some (.int z),?_,⟨?_,fun t ht=>?_⟩,?_⟩
      · rw [List.getElem?_set_self hL2]; push_cast; rfl
      · rw [List.length_set,<- hS2,List.length_set]
      · rw [List.getElem?_set_ne (fun u=>ht u.symm),<- hS2,List.getElem?_set_ne (fun u=>ht u.symm)]
      · have ht:(toB (mOp oLt (mOp oIx (Q5 0) (mC (.int 2))) (Q5 1))) [some (.ref L),some (.int m),none,none,none] S=.ok true S:=by
          simp -implicitDefEqProofs [i2,q,-oIx_r]
        have s1:∀ X:MS,(mSeqS (mSet 2 (mOp oIx (Q5 0) (mC (.int 1)))) (mSeqS (mSet 3 (Q5 2)) X)) [some (.ref L),some (.int m),none,none,none] S=X [some (.ref L),some (.int m),some (.int p),some (.int p),none] S:=fun X=>by
          simp -implicitDefEqProofs [i1,-oIx_r]
        rw [mIfS_eq,ht,sbind_ok,if_pos rfl,s1,mSeqS_eq,ez]
        show mSeqS _ _ _ _=_
        simp -implicitDefEqProofs [t1,ey,t2,-setIx_r]
    · refine ⟨p,c,S,none,none,hS,⟨rfl,fun _ _=>rfl⟩,?_⟩
      simp -implicitDefEqProofs [i2,q,-oIx_r]
  obtain ⟨_,_,j2⟩:=tape_ix hS1
  obtain ⟨d,hd,ed⟩:=modN c1 h1
  obtain ⟨_,t2⟩:=tape_set (x:=.int (c1 / (m:Int))) hS1
  have hL1:=(List.getElem?_eq_some_iff.mp hS1).1
  obtain ⟨S3,hS3⟩:∃ S3,S1.set L (.lst [.fro (ns.map .int),.int p1,.int (c1 / (m:Int))])=S3:=⟨_,rfl⟩
  have h3:S3[L]?=some (.lst [.fro (ns.map .int),.int p1,.int (c1 / (m:Int))]):=by rw [<- hS3,List.getElem?_set_self hL1]
  have M3:Mv L S S3:=⟨by rw [<- hS3,List.length_set,M1.len],fun t ht=>by rw [<- hS3,List.getElem?_set_ne (fun u=>ht u.symm),M1.keep t ht]⟩
  rw [hS3] at t2
  refine ⟨d,S3,hd,⟨p1,_,h3⟩,M3,?_⟩
  have hm0:0 < m:=h1
  have hm1:(m:Int) < 1073741824:=by omega
  have step:m__law_e_digit [some (.ref L),some (.int m),none,none,none] S=.rt (.int d) S3:=by
    unfold m__law_e_digit
    rw [mSeqS_eq,e1]
    show mSeqS _ _ _ _=_
    simp -implicitDefEqProofs [j2,hm0,hm1,ed,t2,-oIx_r,-setIx_r]
  show callF m__law_e_digit 5 _ S=_
  unfold callF
  rw [show (([PV.ref L,.int m]:List PV).map some ++ List.replicate (5 - [PV.ref L,.int m].length) none)=[some (.ref L),some (.int m),none,none,none] from rfl,step]
  exact fin_eq M3.len d
theorem is_whole_int (i:Int) (st:Q0):F_is_whole [.int i] st=.ok (.bl true) st:=by
  simp [F_is_whole,callF,m_is_whole,isI,tyN]
theorem compG_invF {α:Type} (g:α->PV) {xs:List α} (I:Nat->List PV->Q0->Prop) {ga:GA} {mt:MT} {me:ME} {w:Wt} {Γ0:Gam} (hw:∀ i out st,I i out st->wOk w st)
    (h:∀ (i:Nat) x out st,xs[i]?=some x->I i out st->∃ Γ1,ga (g x) Γ0=some Γ1/\∃ b st1,mt Γ1 st=.ok b st1/\(b=true->∃ v st2,me Γ1 st1=.ok v st2/\I (i + 1) (out ++ [v]) st2)/\(b=false->I (i + 1) out st1)) {st:Q0} (h0:I 0 [] st):∃ out st',compG ga mt me w Γ0 (xs.map g) st=.ok out st'/\I xs.length out st':=by
  have key:∀ (ys:List α) (k:Nat) (pre:List PV) (st:Q0),(∀ i,ys[i]?=xs[k + i]?)->k + ys.length=xs.length->I k pre st->∃ out st',compG ga mt me w Γ0 (ys.map g) st=.ok out st'/\I xs.length (pre ++ out) st':=by
    intro ys
    induction ys with
    | nil=>
      intro k pre st e e2 i
      refine ⟨[],st,by simp [compG,hw k pre st i],?_⟩
      rw [List.append_nil,<- e2]; exact i
    | cons y ys ih=>
      intro k pre st e e2 i
      obtain ⟨Γ1,h1,b,st1,h2,h3,h4⟩:=h k y pre st (by have:=e 0; simpa using this.symm) i
      have e':∀ i,ys[i]?=xs[k + 1 + i]?:=fun i=>by have:=e (i + 1); rw [List.getElem?_cons_succ] at this; rw [this]; congr 1; omega
      have e2':k + 1 + ys.length=xs.length:=by rw [<- e2,List.length_cons]; omega
      rw [List.map_cons,compG,if_pos (hw k pre st i),h1]
      simp only [h2,bind_ok]
      cases b with
      | true=>
        obtain ⟨v,st2,h5,h6⟩:=h3 rfl
        obtain ⟨out,st',h7,h8⟩:=ih (k + 1) (pre ++ [v]) st2 e' e2' h6
        refine ⟨v :: out,st',?_,by rw [List.append_assoc] at h8; exact h8⟩
        rw [if_pos rfl,h5]
        simp only [bind_ok,h7]
      | false=>
        obtain ⟨out,st',h7,h8⟩:=ih (k + 1) pre st1 e' e2' (h4 rfl)
        refine ⟨out,st',?_,h8⟩
        rw [if_neg (by simp),h7]
  obtain ⟨out,st',h1,h2⟩:=key xs 0 [] st (fun i=>by simp) (by simp) h0
  exact ⟨out,st',h1,h2⟩
theorem btw_int (x a b:Int) (st:Q0):F_is_between [.int x,.int a,.int b] st=.ok (.bl (decide (a<=x) && decide (x<=b))) st:=by
  have:=is_whole_int x st
  by_cases q:a<=x <;> simp [F_is_between,callF,m_is_between,this,q]
theorem intsOf_ints (ns:List Int):intsOf (ns.map PV.int)=some ns:=by
  induction ns with
  | nil=>rfl
  | cons n ns ih=>rw [List.map_cons,intsOf,ih]; rfl
theorem lex_eq:∀ a b:List Int,HT.lexLt a b=lexL a b
  | [],[]=>rfl
  | [],_ :: _=>rfl
  | _ :: _,[]=>rfl
  | x :: a,y :: b=>by rw [HT.lexLt_cons,lexL,lex_eq a b]
theorem lt_tup (a b:List Int) (st:Q0):oLt st (Q3 a) (Q3 b)=.ok (.bl (lexL a b)) st:=by
  unfold oLt Q3
  simp only [intsOf_ints,lex_eq]
def chainB {α:Type} (lt:α->α->Bool) (xs:List α):Bool:=(xs.zip (xs.drop 1)).all fun z=>lt z.1 z.2
theorem riseG {α:Type} (f:α->PV) (lt:α->α->Bool) (h:∀ a b st,oLt st (f a) (f b)=.ok (.bl (lt a b)) st) (xs:List α) (hl:xs.length<=1000) (st:Q0):F_is_rising [.tup (xs.map f)] st=.ok (.bl (chainB lt xs)) st:=by
  have hsl:cut (xs.map f) (some 1) none=(xs.drop 1).map f:=by
    rw [cut_map]
    exact congrArg _ (cut_back xs 1)
  have hc:compG (gaTup (gaCons (gaName 0) (gaCons (gaName 1) gaNil))) mTrue e_is_rising_1 [] (capG [none,none] [some (.tup (xs.map f))]) ((xs.zip (xs.drop 1)).map fun z=>.tup [f z.1,f z.2]) st=.ok (((xs.zip (xs.drop 1)).map fun z=>lt z.1 z.2).map .bl) st:=by
    rw [List.map_map]
    refine compG_on _ _ (by simp) fun z hz=>⟨_,rfl,?_⟩
    have:=h z.1 z.2 st
    show _=Res.ok (PV.bl (lt z.1 z.2)) st
    generalize f z.1=v1 at *
    generalize f z.2=v2 at *
    simp [capG,e_is_rising_1,this]
  have ha:chainB lt xs=((xs.zip (xs.drop 1)).map fun z=>lt z.1 z.2).all id:=by unfold chainB; rw [List.all_map]; rfl
  have hl':(xs.map f).length<=1000000:=by rw [List.length_map]; omega
  rw [ha]
  rw [<- zipT_map] at hc
  generalize ((xs.zip (xs.drop 1)).map fun z=>lt z.1 z.2)=bs at *
  generalize (xs.drop 1).map f=ds at *
  generalize xs.map f=rv at *
  simp -implicitDefEqProofs [F_is_rising,callF,m_is_rising,hsl,hl',lim_eq,hc]
theorem chain_of {α:Type} {lt:α->α->Bool}:∀ {xs:List α},xs.Pairwise (fun a b=>lt a b=true)->chainB lt xs=true
  | [],_=>rfl
  | [_],_=>rfl
  | x :: y :: t,h=>by
    show (lt x y && chainB lt (y :: t))=true
    rw [chain_of (List.pairwise_cons.mp h).2,(List.pairwise_cons.mp h).1 y (by simp)]; rfl
structure GOk (n:Int) (g:List Int):Prop where
  rng:∀ h ∈ g,0<=h/\h < n
  inc:g.Pairwise (· < ·)
  len:g.length<=20
structure BOk (n:Int) (gs:List (List Int)):Prop where
  n1:1<=n
  n9:n<=9
  ne:gs ≠ []
  ok:∀ g ∈ gs,GOk n g/\g ≠ []
  inc:gs.Pairwise fun a b=>lexL a b=true
  len:gs.length<=64
def setsV (gs:List (List Int)):PV:=.tup (gs.map Q3)
def Q8 (n:Int) (gs:List (List Int)):PV:=.tup [.int n,setsV gs]
theorem rising_houses {n:Int} {g:List Int} (h:GOk n g) (st:Q0):Qf [.int n,Q3 g] st=.ok (.bl true) st:=by
  have hc:compG (gaName 0) mTrue e_are_rising_houses_1 [] (capG [none,some 0] [some (.int n),some (Q3 g)]) (g.map PV.int) st=.ok ((g.map fun _=>true).map .bl) st:=by
    rw [List.map_map]
    refine compG_on PV.int (fun _=>PV.bl true) (by simp) fun x hx=>⟨_,rfl,?_⟩
    obtain ⟨h1,h2⟩:=h.rng x hx
    have hb:=btw_int x 0 (n - 1) st
    rw [show (decide ((0:Int)<=x) && decide (x<=n - 1))=true by simp; omega] at hb
    generalize Q3 g=gv at *
    simp [capG,e_are_rising_houses_1,hb]
  have hr:=riseG PV.int (fun a b=>decide (a < b)) (fun a b st=>rfl) g (by have:=h.len; omega) st
  rw [chain_of (h.inc.imp fun h=>by simpa using h)] at hr
  have hal:((g.map fun _=>true)).all id=true:=by simp
  have hl:(g.map PV.int).length<=1000000:=by rw [List.length_map]; have:=h.len; omega
  unfold Q3 at hc ⊢
  generalize (g.map fun _=>true)=bs at *
  generalize g.map PV.int=gv at *
  simp -implicitDefEqProofs [Qf,callF,m_are_rising_houses,isI,tyN,hl,lim_eq,hc,hal,hr]
theorem group_ok {n:Int} {g:List Int} (h:GOk n g) (hne:g ≠ []) (st:Q0):F_is_group [.int n,Q3 g] st=.ok (.bl true) st:=by
  have h1:=rising_houses h st
  have h2:0 < g.length:=List.length_pos_iff.mpr hne
  have h3:cLen st [Q3 g]=.ok (.int (g.length:Nat)) st:=by
    have:(g.map PV.int).length=g.length:=List.length_map _
    simp [Q3]
  generalize Q3 g=gv at *
  simp -implicitDefEqProofs [F_is_group,callF,m_is_group,h1,h3,h2]
theorem sets_ok {n:Int} {gs:List (List Int)} (h:BOk n gs) (st:Q0):F_are_sets [.int n,setsV gs] st=.ok (.bl true) st:=by
  have hc:compG (gaName 0) mTrue e_are_sets_1 [] (capG [none,some 0] [some (.int n),some (setsV gs)]) (gs.map Q3) st=.ok ((gs.map fun _=>true).map .bl) st:=by
    rw [List.map_map]
    refine compG_on Q3 (fun _=>PV.bl true) (by simp) fun x hx=>⟨_,rfl,?_⟩
    have:=group_ok (h.ok x hx).1 (h.ok x hx).2 st
    generalize setsV gs=sv at *
    generalize Q3 x=xv at *
    simp [capG,e_are_sets_1,this]
  have hr:=riseG Q3 lexL lt_tup gs (by have:=h.len; omega) st
  rw [chain_of h.inc] at hr
  have hal:((gs.map fun _=>true)).all id=true:=by simp
  have hl:(gs.map Q3).length<=1000000:=by rw [List.length_map]; have:=h.len; omega
  have hlen:(gs.map Q3).length=gs.length:=List.length_map _
  have h0:¬ ((gs.length:Int)=0):=by have:=List.length_pos_iff.mpr h.ne; omega
  have h0':¬ (gs.length=0):=by omega
  have hl2:gs.length<=1000000:=by have:=h.len; omega
  unfold setsV at hc ⊢
  generalize (gs.map fun _=>true)=bs at *
  generalize gs.length=gl at *
  generalize gs.map Q3=gv at *
  have h0'':¬ gv=[]:=fun z=>by rw [z] at hlen; exact h0' hlen.symm
  simp -implicitDefEqProofs [F_are_sets,callF,m_are_sets,isI,tyN,hlen,h0,h0',h0'',hl,hl2,lim_eq,hc,hal,hr]
theorem book_ok {n:Int} {gs:List (List Int)} (h:BOk n gs) (st:Q0):F_is_book [Q8 n gs] st=.ok (.bl true) st:=by
  have h1:=sets_ok h st
  have hb:=btw_int n 1 9 st
  have h9:=h.n9
  have h11:=h.n1
  rw [show (decide ((1:Int)<=n) && decide (n<=9))=true by simp; omega] at hb
  unfold Q8
  generalize setsV gs=sv at *
  simp -implicitDefEqProofs [F_is_book,callF,m_is_book,F_is_sized_tuple,m_is_sized_tuple,isI,tyN,atI,ixN,hb,h1]
theorem need_book_ok {n:Int} {gs:List (List Int)} (h:BOk n gs) (st:Q0):F_need_book [Q8 n gs] st=.ok .non st:=by
  have h1:=book_ok h st
  generalize Q8 n gs=bv at *
  simp -implicitDefEqProofs [F_need_book,callF,m_need_book,h1]
theorem Mv.refl (L:Nat) (S:Q0):Mv L S S:=⟨rfl,fun _ _=>rfl⟩
theorem Mv.trans {L:Nat} {S S1 S2:Q0} (a:Mv L S S1) (b:Mv L S1 S2):Mv L S S2:=⟨b.len.trans a.len,fun t ht=>(b.keep t ht).trans (a.keep t ht)⟩
theorem TapeAt.of {S S':Q0} {L:Nat} {ns:List Int} (h:TapeAt S L ns) (e:S'[L]?=S[L]?):TapeAt S' L ns:=let ⟨p,c,q⟩:=h; ⟨p,c,by rw [e]; exact q⟩
theorem oAdd_lstL (st:Q0) (xs ys:List PV):oAdd st (.lst xs) (.lst ys)=if xs.length + ys.length<=lim then .ok (.lst (xs ++ ys)) st else .stuck:=rfl
theorem filt_ok {ns:List Int} {L:Nat} {mt:MT} {me:ME} (hmt:∀ (k:Nat) (st:Q0),TapeAt st L ns->∃ b st2,mt [some (.int k),some (.ref L)] st=.ok b st2/\TapeAt st2 L ns/\Mv L st st2) (hme:∀ (k:Nat) (st:Q0),me [some (.int k),some (.ref L)] st=.ok (.int k) st) {S:Q0} (T:TapeAt S L ns) (n:Nat) (hn:n<=9) :
    ∃ (g:List Int) (S':Q0),TapeAt S' L ns/\Mv L S S'/\GOk n g/\compG (gaName 0) mt me [] [none,some (.ref L)] (rangeI 0 n) S=.ok (g.map PV.int) S':=by
  rw [rangeI0]
  obtain ⟨out,S',e,g,rfl,T',M',h1,h2,h3⟩:=compG_invF (fun k:Nat=>PV.int (k:Int)) (xs:=List.range n) (ga:=gaName 0) (mt:=mt) (me:=me) (w:=[]) (Γ0:=[none,some (.ref L)]) (st:=S)
    (fun k out st'=>∃ g:List Int,out=g.map PV.int/\TapeAt st' L ns/\Mv L S st'/\(∀ h ∈ g,0<=h/\h < (k:Int))/\g.Pairwise (· < ·)/\g.length<=k)
    (fun _ _ _ _=>by simp)
    (fun k x out st' hx ⟨g,e1,T',M',h1,h2,h3⟩=>by
      have hkn:k < n:=by simpa using (List.getElem?_eq_some_iff.mp hx).1
      have hxk:x=k:=by
        rw [List.getElem?_range hkn] at hx
        exact (Option.some.inj hx).symm
      subst hxk
      subst e1
      obtain ⟨b,st2,e2,T2,M2⟩:=hmt x st' T'
      have wide:∀ h ∈ g,0<=h/\h < ((x + 1:Nat):Int):=fun h hh=>⟨(h1 h hh).1,by have:=(h1 h hh).2; omega⟩
      refine ⟨_,rfl,b,st2,e2,fun _=>⟨.int x,st2,hme x st2,g ++ [(x:Int)],by rw [List.map_append]; rfl,T2,M'.trans M2,fun h hh=>?_,?_,by simp; omega⟩,fun _=>⟨g,rfl,T2,M'.trans M2,wide,h2,by omega⟩⟩
      · rcases List.mem_append.mp hh with hh | hh
        · exact wide h hh
        · rw [List.mem_singleton.mp hh]; omega
      · rw [List.pairwise_append]
        refine ⟨h2,by simp,fun a ha b hb=>?_⟩
        rw [List.mem_singleton.mp hb]
        exact (h1 a ha).2)
    ⟨[],rfl,T,Mv.refl L S,fun j hj=>(by cases hj),List.Pairwise.nil,by simp⟩
  rw [List.length_range] at h1 h3
  exact ⟨g,S',T',M',⟨h1,h2,by omega⟩,e⟩
theorem subset_ok {ns:List Int} {S:Q0} {L:Nat} (T:TapeAt S L ns) (n:Nat) (hn:n<=9):∃ (g:List Int) (S':Q0),TapeAt S' L ns/\Mv L S S'/\GOk n g/\F__law_e_subset [.ref L,.int n] S=.ok (Q3 g) S':=by
  obtain ⟨g,S',T',M',G,e⟩:=filt_ok (mt:=t__law_e_subset_1) (me:=e__law_e_subset_1) (fun k st Tk=>by
    obtain ⟨d,S2,hd,T2,M2,e2⟩:=digit_ok Tk 2 (by decide) (by decide)
    rw [show ((2:Nat):Int)=2 from rfl] at e2
    exact ⟨(d:Int) == 0,S2,by simp -implicitDefEqProofs [t__law_e_subset_1,e2],T2,M2⟩) (fun k st=>by simp [e__law_e_subset_1]) T n hn
  refine ⟨g,S',T',M',G,?_⟩
  have hb:-1000000<=(n:Int)/\(n:Int)<=1000000:=by omega
  have step:m__law_e_subset [some (.ref L),some (.int n)] S=.rt (Q3 g) S':=by
    unfold Q3
    have e':compG (gaName 0) t__law_e_subset_1 e__law_e_subset_1 [] (capG [none,some 0] [some (.ref L),some (.int n)]) (rangeI 0 n) S=.ok (g.map PV.int) S':=e
    generalize g.map PV.int=gv at *
    simp -implicitDefEqProofs [m__law_e_subset,lim_eq,hb,e']
  show callK m__law_e_subset 2 _ S=_
  unfold callK
  rw [show (([PV.ref L,.int n]:List PV).map some ++ List.replicate (2 - [PV.ref L,.int n].length) none)=[some (.ref L),some (.int n)] from rfl,step]
def subL:Nat->List (List Int)
  | 0=>[[]]
  | k + 1=>subL k ++ (subL k).map (· ++ [(k:Int)])
theorem subL_len:∀ k,(subL k).length=2 ^ k
  | 0=>rfl
  | k + 1=>by rw [subL,List.length_append,List.length_map,subL_len k,Nat.pow_succ]; omega
theorem subL_ok:∀ k,∀ g ∈ subL k,(∀ h ∈ g,0<=h/\h < (k:Int))/\g.Pairwise (· < ·)/\g.length<=k
  | 0,g,hg=>by
    have:g=[]:=by simpa [subL] using hg
    subst this
    exact ⟨fun h hh=>(by cases hh),List.Pairwise.nil,by simp⟩
  | k + 1,g,hg=>by
    rw [subL] at hg
    rcases List.mem_append.mp hg with hg | hg
    · obtain ⟨a,b,c⟩:=subL_ok k g hg
      exact ⟨fun h hh=>⟨(a h hh).1,by have:=(a h hh).2; omega⟩,b,by omega⟩
    · obtain ⟨q,hq,rfl⟩:=List.mem_map.mp hg
      obtain ⟨a,b,c⟩:=subL_ok k q hq
      refine ⟨fun h hh=>?_,?_,by simp; omega⟩
      · rcases List.mem_append.mp hh with hh | hh
        · exact ⟨(a h hh).1,by have:=(a h hh).2; omega⟩
        · rw [List.mem_singleton.mp hh]; omega
      · rw [List.pairwise_append]
        refine ⟨b,by simp,fun x hx y hy=>?_⟩
        rw [List.mem_singleton.mp hy]; exact (a x hx).2
theorem subL_nodup:∀ k,(subL k).Nodup
  | 0=>by simp [subL]
  | k + 1=>by
    rw [subL,List.nodup_append]
    refine ⟨subL_nodup k,List.Pairwise.map _ (fun a b hab e=>hab (List.append_cancel_right e)) (subL_nodup k),fun a ha b hb e=>?_⟩
    obtain ⟨q,hq,rfl⟩:=List.mem_map.mp hb
    have:=(subL_ok k a ha).1 (k:Int) (by rw [e]; simp)
    omega
theorem subL_has:∀ k m,m<=k->∃ g ∈ subL k,g.length=m
  | 0,m,h=>⟨[],by simp [subL],by simp; omega⟩
  | k + 1,m,h=>by
    by_cases z:m<=k
    · obtain ⟨g,h1,h2⟩:=subL_has k m z
      exact ⟨g,by rw [subL]; exact List.mem_append_left _ h1,h2⟩
    · obtain ⟨g,h1,h2⟩:=subL_has k k (Nat.le_refl _)
      refine ⟨g ++ [(k:Int)],by rw [subL]; exact List.mem_append_right _ (List.mem_map.mpr ⟨g,h1,rfl⟩),by simp; omega⟩
def sizeL (n m:Nat):List (List Int):=(subL n).filter fun g=>decide ((g.length:Int)=(m:Int))
theorem strict_sort {l:List (List Int)} (h:l.Nodup):(sortL l).Pairwise fun a b=>lexL a b=true:=by
  have nd:(sortL l).Nodup:=(sortL_perm l).nodup_iff.mpr h
  refine ((sortL_sorted l).and nd).imp fun {a b} ⟨h1,h2⟩=>?_
  rcases (leL_iff a b).mp h1 with e | e
  · exact absurd e h2
  · exact e
theorem size_book {n m:Nat} (hn1:1<=n) (hn:n<=6) (hm1:1<=m) (hm:m<=n):BOk n (sortL (sizeL n m))/\(sizeL n m).length < 64/\∀ g ∈ sizeL n m,g ≠ []:=by
  have mem:∀ g,g ∈ sizeL n m <-> g ∈ subL n/\g.length=m:=fun g=>by
    unfold sizeL
    rw [List.mem_filter]
    constructor
    · rintro ⟨a,b⟩; exact ⟨a,by simp at b; omega⟩
    · rintro ⟨a,b⟩; exact ⟨a,by simp; omega⟩
  have hpw:2 ^ n<=64:=Nat.le_trans (Nat.pow_le_pow_right (by decide) hn) (by decide)
  have hlt:(sizeL n m).length < 64:=by
    have h0:([]:List Int) ∈ subL n:=by
      obtain ⟨g,h1,h2⟩:=subL_has n 0 (Nat.zero_le _)
      rw [List.length_eq_zero_iff.mp h2] at h1
      exact h1
    have:(sizeL n m).length < (subL n).length:=by
      unfold sizeL
      exact List.length_filter_lt_length_iff_exists.mpr ⟨[],h0,by simp; omega⟩
    rw [subL_len] at this
    omega
  have hp:=sortL_perm (sizeL n m)
  refine ⟨⟨by omega,by omega,fun z=>?_,fun g hg=>?_,strict_sort (List.Nodup.sublist List.filter_sublist (subL_nodup n)),by rw [hp.length_eq]; omega⟩,hlt,fun g hg z=>?_⟩
  · obtain ⟨g,h1,h2⟩:=subL_has n m hm
    have:g ∈ sortL (sizeL n m):=hp.mem_iff.mpr ((mem g).mpr ⟨h1,h2⟩)
    rw [z] at this; cases this
  · obtain ⟨h1,h2⟩:=(mem g).mp (hp.mem_iff.mp hg)
    obtain ⟨a,b,c⟩:=subL_ok n g h1
    exact ⟨⟨a,b,by omega⟩,fun z=>by rw [z] at h2; simp at h2; omega⟩
  · obtain ⟨h1,h2⟩:=(mem g).mp hg
    rw [z] at h2; simp at h2; omega
theorem tups_tupI:∀ {l:List (List Int)},(∀ g ∈ l,g ≠ [])->tupsP (l.map Q3)=some l
  | [],_=>rfl
  | [] :: l,h=>absurd rfl (h [] (by simp))
  | (x :: g) :: l,h=>by
    have ih:=tups_tupI (l:=l) fun g hg=>h g (List.mem_cons_of_mem _ hg)
    have hi:∀ ns:List Int,intsP (ns.map PV.int)=some ns:=fun ns=>by
      induction ns with
      | nil=>rfl
      | cons n ns ih=>rw [List.map_cons,intsP,ih]; rfl
    rw [List.map_cons]
    show (match intsP ((x :: g).map PV.int) with | some (n :: ns)=>(tupsP (l.map Q3)).map ((n :: ns) :: ·) | _=>none)=_
    rw [hi,ih]; rfl
theorem sized_ok {n m:Nat} (hn1:1<=n) (hn:n<=6) (hm1:1<=m) (hm:m<=n) (S:Q0):F__law_e_sized [.int n,.int m] S=.ok (.lst ((sortL (sizeL n m)).map Q3)) S:=by
  obtain ⟨_,h64,hne⟩:=size_book hn1 hn hm1 hm
  have hpw:∀ i,i<=6->2 ^ i<=64:=fun i hi=>Nat.le_trans (Nat.pow_le_pow_right (by decide) hi) (by decide)
  obtain ⟨Γ',st',e,b3,rfl,rfl⟩:=forG_inv (g:=fun k:Nat=>PV.int (k:Int)) (xs:=List.range n) (ga:=gaName 3) (body:=b__law_e_sized_1) (w:=[]) (Γ:=[some (.int n),some (.int m),some (.lst ((subL 0).map Q3)),none]) (st:=S)
    (fun i Γ st'=>∃ b3,Γ=[some (.int n),some (.int m),some (.lst ((subL i).map Q3)),b3]/\st'=S)
    (fun _ _ _ _=>by simp)
    (fun i x Γ st' hx ⟨b3,e1,e2⟩=>by
      subst e1; subst e2
      have hi:i < n:=by simpa using (List.getElem?_eq_some_iff.mp hx).1
      have hxi:x=i:=by
        rw [List.getElem?_range hi] at hx
        exact (Option.some.inj hx).symm
      subst hxi
      have hc:compG (gaName 0) mTrue e__law_e_sized_1 [] (capG [none,some 3] [some (.int n),some (.int m),some (.lst ((subL x).map Q3)),some (.int x)]) ((subL x).map Q3) st'=.ok (((subL x).map (· ++ [(x:Int)])).map Q3) st':=by
        rw [List.map_map]
        refine compG_on Q3 (fun g=>Q3 (g ++ [(x:Int)])) (by simp) fun g hg=>⟨_,rfl,?_⟩
        have hgl:=(subL_ok x g hg).2.2
        have hl:(g.map PV.int).length + 1<=1000000:=by rw [List.length_map]; omega
        have ha:Q3 (g ++ [(x:Int)])=.tup (g.map PV.int ++ [.int x]):=by unfold Q3; rw [List.map_append]; rfl
        rw [ha]
        generalize (subL x).map Q3=sv at *
        unfold Q3
        generalize g.map PV.int=gv at *
        simp [capG,e__law_e_sized_1,lim_eq,hl]
      have hlen:((subL x).map Q3).length + (((subL x).map (· ++ [(x:Int)])).map Q3).length<=1000000:=by
        rw [List.length_map,List.length_map,List.length_map,subL_len]
        have:=hpw x (by omega)
        omega
      have hl2:((subL x).map Q3).length<=1000000:=by omega
      have hs:(subL (x + 1)).map Q3=(subL x).map Q3 ++ ((subL x).map (· ++ [(x:Int)])).map Q3:=by rw [subL,List.map_append]
      have ha:=oAdd_lstL st' ((subL x).map Q3) (((subL x).map (· ++ [(x:Int)])).map Q3)
      rw [if_pos (show _<=lim from hlen)] at ha
      refine ⟨_,rfl,[some (.int n),some (.int m),some (.lst ((subL (x + 1)).map Q3)),some (.int x)],st',?_,_,rfl,rfl⟩
      rw [hs]
      show b__law_e_sized_1 [some (.int n),some (.int m),some (.lst ((subL x).map Q3)),some (.int x)] st'=_
      generalize ((subL x).map (· ++ [(x:Int)])).map Q3=tv at *
      generalize (subL x).map Q3=sv at *
      simp -implicitDefEqProofs [b__law_e_sized_1,lim_eq,hl2,hc,ha])
    ⟨_,rfl,rfl⟩
  rw [List.length_range,<- rangeI0] at *
  have hc2:compG (gaName 0) t__law_e_sized_2 e__law_e_sized_2 [] (capG [none,some 1] [some (.int n),some (.int m),some (.lst ((subL n).map Q3)),b3]) ((subL n).map Q3) st'=.ok ((sizeL n m).map Q3) st':=by
    unfold sizeL
    refine compG_onF Q3 Q3 (fun g=>decide ((g.length:Int)=(m:Int))) (by simp) fun g hg=>⟨_,rfl,?_,fun _=>?_⟩
    · have hll:cLen st' [Q3 g]=.ok (.int (g.length:Nat)) st':=by simp [Q3]
      generalize (subL n).map Q3=sv at *
      generalize Q3 g=gv at *
      simp [capG,t__law_e_sized_2,hll]
      by_cases q:(g.length:Int)=(m:Int) <;> simp [q]
    · generalize (subL n).map Q3=sv at *
      generalize Q3 g=gv at *
      simp [capG,e__law_e_sized_2]
  have hso:cSortT st' [.lst ((sizeL n m).map Q3)]=.ok (.lst ((sortL (sizeL n m)).map Q3)) st':=by
    unfold cSortT
    simp only [listOf_lst,tups_tupI hne]
    rw [if_pos h64]
  have hl3:((subL n).map Q3).length<=1000000:=by rw [List.length_map,subL_len]; have:=hpw n hn; omega
  have hb:-1000000<=(n:Int)/\(n:Int)<=1000000:=by omega
  have hg:good 12 (.lst ((sortL (sizeL n m)).map Q3))=true:=by simp [good,Q3]
  have hz:=fz_good (n:=st'.length) (st:=st') (k:=16) hg (by decide)
  have h00:(subL 0).map Q3=[.tup []]:=rfl
  rw [h00] at e
  have step:m__law_e_sized [some (.int n),some (.int m),none,none] st'=.rt (.lst ((sortL (sizeL n m)).map Q3)) st':=by
    generalize (sortL (sizeL n m)).map Q3=ov at *
    generalize (sizeL n m).map Q3=zv at *
    generalize (subL n).map Q3=sv at *
    simp -implicitDefEqProofs [m__law_e_sized,lim_eq,hb,e,hl3,hc2,hso]
  show callF m__law_e_sized 4 _ st'=_
  unfold callF
  rw [show (([PV.int n,.int m]:List PV).map some ++ List.replicate (4 - [PV.int n,.int m].length) none)=[some (.int n),some (.int m),none,none] from rfl,step]
  generalize (sortL (sizeL n m)).map Q3=ov at *
  show fin st' (.lst ov) st'=_
  unfold fin
  rw [if_pos (List.prefix_refl _),hz]; rfl
def encG (gs:List (List Int)):List (List Key × PV):=gs.map fun g=>(g.map Sum.inl,.bl true)
theorem inl_inj {a b:List Int} (h:(a.map Sum.inl:List Key)=b.map Sum.inl):a=b:=by
  induction a generalizing b with
  | nil=>cases b with
    | nil=>rfl
    | cons _ _=>cases h
  | cons x a ih=>cases b with
    | nil=>cases h
    | cons y b=>
      rw [List.map_cons,List.map_cons] at h
      obtain ⟨h1,h2⟩:=List.cons.inj h
      rw [Sum.inl.inj h1,ih h2]
open Classical in
def addG (gs:List (List Int)) (g:List Int):List (List Int):=if g ∈ gs then gs else gs ++ [g]
theorem put_enc (gs:List (List Int)) (g:List Int):putT (encG gs) (g.map Sum.inl) (.bl true)=encG (addG gs g):=by
  classical
  have hany:((encG gs).any fun kv=>decide (kv.1=g.map Sum.inl))=decide (g ∈ gs):=by
    unfold encG
    rw [List.any_map]
    by_cases h:g ∈ gs
    · rw [decide_eq_true h,List.any_eq_true]
      exact ⟨g,h,by simp⟩
    · rw [decide_eq_false h,List.any_eq_false]
      intro x hx z
      simp at z
      exact h (by rw [<- inl_inj z]; exact hx)
  unfold putT addG
  rw [hany]
  by_cases h:g ∈ gs
  · rw [if_pos (decide_eq_true h),if_pos h]
    unfold encG
    rw [List.map_map]
    refine List.map_congr_left fun x hx=>?_
    show (if (x.map Sum.inl:List Key)=g.map Sum.inl then _ else _)=_
    split <;> rfl
  · rw [if_neg (by simpa using h),if_neg h]
    unfold encG
    rw [List.map_append]; rfl
theorem keyOf_int' (i:Int):keyOf (.int i)=some (.inl i):=rfl
theorem keysT_ints (g:List Int):keysT (g.map PV.int)=some (g.map Sum.inl):=by
  induction g with
  | nil=>rfl
  | cons x g ih=>rw [List.map_cons,keysT,keyOf_int']; simp [ih]
theorem intK_inl (g:List Int):intK (g.map Sum.inl)=some g:=by
  induction g with
  | nil=>rfl
  | cons x g ih=>rw [List.map_cons,intK,ih]; rfl
theorem keysI_enc:∀ {gs:List (List Int)},(∀ g ∈ gs,g ≠ [])->keysI (encG gs)=some gs
  | [],_=>rfl
  | [] :: gs,h=>absurd rfl (h [] (by simp))
  | (x :: g) :: gs,h=>by
    have ih:=keysI_enc (gs:=gs) fun g hg=>h g (List.mem_cons_of_mem _ hg)
    show (match intK ((x :: g).map Sum.inl) with | some (n :: ns)=>(keysI (encG gs)).map ((n :: ns) :: ·) | _=>none)=_
    rw [intK_inl,ih]; rfl
theorem dputT_at {S:Q0} {D:Nat} {gs:List (List Int)} (h:S[D]?=some (.dtp (encG gs))) (hl:gs.length < 1000000) (g:List Int):dputT S (.ref D) (Q3 g) (.bl true)=some (S.set D (.dtp (encG (addG gs g)))):=by
  have h1:dtpOf S (.ref D)=some (encG gs):=by simp only [dtpOf,h]
  have h2:(encG gs).length < lim:=by unfold encG; rw [List.length_map]; exact hl
  unfold dputT Q3
  simp only [h1,keysT_ints,if_pos h2,put_enc]
@[simp] theorem mDPutT_eq (mo mi m:ME) (Γ:Gam) (st:Q0):mDPutT mo mi m Γ st=(m Γ st).sbind fun v st1=>(mo Γ st1).sbind fun p st2=>(mi Γ st2).sbind fun q st3=>match dputT st3 p q v with
  | some st4=>.nx Γ st4
  | none=>.stuck:=rfl
@[simp] theorem mDispT_eq (Γ:Gam) (st:Q0):mDispT Γ st=.ok (.ref st.length) (st ++ [.dtp []]):=rfl
structure GsOk (n:Int) (gs:List (List Int)):Prop where
  ok:∀ g ∈ gs,GOk n g/\g ≠ []
  nd:gs.Nodup
theorem GsOk.add {n:Int} {gs:List (List Int)} (h:GsOk n gs) {g:List Int} (hg:GOk n g) (hne:g ≠ []):GsOk n (addG gs g)/\(addG gs g).length<=gs.length + 1/\addG gs g ≠ []:=by
  classical
  unfold addG
  by_cases z:g ∈ gs
  · rw [if_pos z]
    exact ⟨h,by omega,fun e=>by rw [e] at z; cases z⟩
  · rw [if_neg z]
    refine ⟨⟨fun q hq=>?_,?_⟩,by simp,by simp⟩
    · rcases List.mem_append.mp hq with hq | hq
      · exact h.ok q hq
      · rw [List.mem_singleton.mp hq]; exact ⟨hg,hne⟩
    · rw [List.nodup_append]
      exact ⟨h.nd,by simp,fun a ha b hb e=>z (by rw [<- List.mem_singleton.mp hb,<- e]; exact ha)⟩
abbrev bkΓ (L n w D:Nat) (a5 a6:Option PV):Gam:=[some (.ref L),some (.int 6),some (.int n),some (.int w),some (.ref D),a5,a6]
theorem ne_nil_ok (g:List Int) (st:Q0):oNe st (Q3 g) (.tup [])=.ok (.bl (!g.isEmpty)) st:=by
  cases g with
  | nil=>simp [Q3,oNe,oEq,der,good,peq,peqL,dep]
  | cons x g=>simp [Q3,oNe,oEq,der,good,peq,peqL,dep]
theorem bkturn {ns:List Int} {S:Q0} {L D n w:Nat} (T:TapeAt S L ns) (hLD:L ≠ D) (hn:n<=6) {gs:List (List Int)} (h:S[D]?=some (.dtp (encG gs))) (G:GsOk n gs) (hl:gs.length<=1000) (a5 a6:Option PV) :
    ∃ b6 S' gs',TapeAt S' L ns/\S'[D]?=some (.dtp (encG gs'))/\GsOk n gs'/\gs'.length<=gs.length + 1/\b__law_e_book_1 (bkΓ L n w D a5 a6) S=.nx (bkΓ L n w D a5 b6) S':=by
  obtain ⟨g1,S1,T1,M1,G1,e1⟩:=subset_ok T n (by omega)
  have hb:-1000000<=(n:Int)/\(n:Int)<=1000000:=by omega
  have mid:∃ g S2,TapeAt S2 L ns/\Mv L S S2/\GOk n g/\∀ Y:MS,(mSeqS (mSet 6 (mCallF 2 F__law_e_subset (Q4 (Q5 0) (Q4 (Q5 2) Qe))))
    (mSeqS (mIfS (toB (mOp oEq (Q5 3) (mC (.int 1)))) (mSet 6 (mCall cTuple (Q4 (mVal (mCompN [none,some 0] (gaName 0) (mRange1 (Q4 (Q5 2) Qe)) t__law_e_book_1 e__law_e_book_1)) Qe))) mNext) Y)) (bkΓ L n w D a5 a6) S=Y (bkΓ L n w D a5 (some (Q3 g))) S2:=by
    by_cases hw:w=1
    · subst hw
      obtain ⟨g,S2,T2,M2,G2,e2⟩:=filt_ok (mt:=t__law_e_book_1) (me:=e__law_e_book_1) (fun k st Tk=>by
        obtain ⟨d,S2,hd,T2,M2,e2⟩:=digit_ok Tk 4 (by decide) (by decide)
        rw [show ((4:Nat):Int)=4 from rfl] at e2
        exact ⟨decide ((0:Int) < d),S2,by simp -implicitDefEqProofs [t__law_e_book_1,e2],T2,M2⟩) (fun k st=>by simp [e__law_e_book_1]) T1 n (by omega)
      refine ⟨g,S2,T2,M1.trans M2,G2,fun Y=>?_⟩
      have e2':compG (gaName 0) t__law_e_book_1 e__law_e_book_1 [] (capG [none,some 0] [some (.ref L),some (.int 6),some (.int n),some (.int 1),some (.ref D),a5,some (Q3 g1)]) (rangeI 0 n) S1=.ok (g.map PV.int) S2:=e2
      unfold bkΓ
      generalize Q3 g1=v1 at *
      unfold Q3
      generalize g.map PV.int=gv at *
      simp -implicitDefEqProofs [e1,lim_eq,hb,e2']
    · have hw':¬ ((w:Int)=1):=by omega
      refine ⟨g1,S1,T1,M1,G1,fun Y=>?_⟩
      unfold bkΓ
      generalize Q3 g1=v1 at *
      simp -implicitDefEqProofs [e1,hw,hw']
  obtain ⟨g,S2,T2,M2,G2,hY⟩:=mid
  have h2:S2[D]?=some (.dtp (encG gs)):=by rw [M2.keep D (fun z=>hLD z.symm)]; exact h
  have hD:D < S2.length:=(List.getElem?_eq_some_iff.mp h2).1
  have nn:=ne_nil_ok g S2
  by_cases hg:g=[]
  · refine ⟨some (Q3 g),S2,gs,T2,h2,G,by omega,?_⟩
    have nn:oNe S2 (Q3 g) (.tup [])=.ok (.bl false) S2:=by rw [nn,hg]; rfl
    unfold b__law_e_book_1
    rw [hY]
    unfold bkΓ
    generalize Q3 g=gv at *
    simp -implicitDefEqProofs [lim_eq,nn]
  · have dp:=dputT_at h2 (by omega) g
    obtain ⟨k1,k2,_⟩:=G.add G2 hg
    refine ⟨some (Q3 g),S2.set D (.dtp (encG (addG gs g))),addG gs g,T2.of (by rw [List.getElem?_set_ne (fun z=>hLD z.symm)]),by rw [List.getElem?_set_self hD],k1,k2,?_⟩
    have nn:oNe S2 (Q3 g) (.tup [])=.ok (.bl true) S2:=by
      rw [nn]
      cases g with
      | nil=>exact absurd rfl hg
      | cons _ _=>rfl
    unfold b__law_e_book_1
    rw [hY]
    unfold bkΓ
    generalize Q3 g=gv at *
    simp -implicitDefEqProofs [lim_eq,nn,dp]
theorem book_drawn {ns:List Int} {S:Q0} {L:Nat} (T:TapeAt S L ns):∃ (n:Nat) (gs:List (List Int)) (S':Q0),1<=n/\n<=6/\BOk n gs/\TapeAt S' L ns/\F__law_e_book [.ref L,.int 6] S=.ok (Q8 n gs) S':=by
  obtain ⟨d,S1,hd,T1,M1,e1⟩:=digit_ok T 6 (by decide) (by decide)
  obtain ⟨w,S2,hw,T2,M2,e2⟩:=digit_ok T1 4 (by decide) (by decide)
  rw [show ((6:Nat):Int)=6 from rfl] at e1
  rw [show ((4:Nat):Int)=4 from rfl] at e2
  obtain ⟨n,hn⟩:∃ n:Nat,1 + (d:Int)=n:=⟨1 + d,by push_cast; rfl⟩
  have hn1:1<=n:=by omega
  have hn6:n<=6:=by omega
  have ret:∀ {v:PV} {S':Q0},m__law_e_book [some (.ref L),some (.int 6),none,none,none,none,none] S=.rt v S'->F__law_e_book [.ref L,.int 6] S=.ok v S':=fun {v S'} h=>by
    show callK m__law_e_book 7 _ S=_
    unfold callK
    rw [show (([PV.ref L,.int 6]:List PV).map some ++ List.replicate (7 - [PV.ref L,.int 6].length) none)=[some (.ref L),some (.int 6),none,none,none,none,none] from rfl,h]
  by_cases w0:w=0
  · subst w0
    obtain ⟨m,S3,hm,T3,M3,e3⟩:=digit_ok T2 n hn1 (by omega)
    obtain ⟨q,hq⟩:∃ q:Nat,1 + (m:Int)=q:=⟨1 + m,by push_cast; rfl⟩
    have e4:=sized_ok hn1 hn6 (show 1<=q by omega) (show q<=n by omega) S3
    refine ⟨n,sortL (sizeL n q),S3,hn1,hn6,(size_book hn1 hn6 (by omega) (by omega)).1,T3,ret ?_⟩
    rw [show ((0:Nat):Int)=0 from rfl] at e2
    unfold Q8 setsV
    generalize (sortL (sizeL n q)).map Q3=ov at *
    simp -implicitDefEqProofs [m__law_e_book,e1,e2,hn,e3,hq,e4,lim_eq]
  · have w0':¬ ((w:Int)=0):=by omega
    have T3:TapeAt (S2 ++ [.dtp []]) L ns:=T2.of (by rw [List.getElem?_append_left T2.lt])
    obtain ⟨k,S4,hk,T4,M4,e4⟩:=digit_ok T3 6 (by decide) (by decide)
    rw [show ((6:Nat):Int)=6 from rfl] at e4
    have hLD:L ≠ S2.length:=Nat.ne_of_lt T2.lt
    have h4:S4[S2.length]?=some (.dtp (encG [])):=by rw [M4.keep _ (fun z=>hLD z.symm)]; simp [encG]
    obtain ⟨kk,hkk⟩:∃ kk:Nat,1 + (k:Int)=kk:=⟨1 + k,by push_cast; rfl⟩
    obtain ⟨Γ',S5,e5,b5,b6,gs,rfl,T5,h5,G5,l5⟩:=forG_inv (g:=fun k:Nat=>PV.int (k:Int)) (xs:=List.range kk) (ga:=gaName 5) (body:=b__law_e_book_1) (w:=[]) (Γ:=bkΓ L n w S2.length none none) (st:=S4)
      (fun i Γ st'=>∃ b5 b6 gs,Γ=bkΓ L n w S2.length b5 b6/\TapeAt st' L ns/\st'[S2.length]?=some (.dtp (encG gs))/\GsOk n gs/\gs.length<=i)
      (fun _ _ _ _=>by simp)
      (fun i x Γ st' hx ⟨b5,b6,gs,g1,T',h',G',l'⟩=>by
        subst g1
        have hi:i < kk:=by simpa using (List.getElem?_eq_some_iff.mp hx).1
        obtain ⟨c6,S',gs',T6,h6,G6,l6,e6⟩:=bkturn T' hLD hn6 h' G' (by omega) (some (.int x)) b6 (w:=w)
        exact ⟨_,rfl,_,S',e6,_,_,gs',rfl,T6,h6,G6,by omega⟩)
      ⟨_,_,[],rfl,T4,h4,⟨fun g hg=>(by cases hg),List.nodup_nil⟩,by simp⟩
    rw [<- rangeI0] at e5
    rw [List.length_range] at l5
    have hkb:-1000000<=(kk:Int)/\(kk:Int)<=1000000:=by omega
    have hD5:S2.length < S5.length:=(List.getElem?_eq_some_iff.mp h5).1
    have hlt:∀ (S':Q0) gs',S'[S2.length]?=some (.dtp (encG gs'))->gs'.length < 1000->cLenT S' [.ref S2.length]=.ok (.int (gs'.length:Nat)) S':=fun S' gs' h hl=>by
      unfold cLenT
      have h1:dtpOf S' (.ref S2.length)=some (encG gs'):=by simp only [dtpOf,h]
      have h2:(encG gs').length=gs'.length:=by unfold encG; rw [List.length_map]
      simp only [h1,h2]
      rw [if_pos (by omega)]
    have mid:∃ gs' S6,GsOk n gs'/\gs' ≠ []/\gs'.length < 60/\TapeAt S6 L ns/\S6[S2.length]?=some (.dtp (encG gs'))/\(mIfS (toB (mOp oEq (mCall cLenT (Q4 (Q5 4) Qe)) (mC (.int 0)))) (mDPutT (Q5 4) (mTup (Q4 (mOp (oI fun a b=>.int (a - b)) (Q5 2) (mC (.int 1))) Qe)) (mC (.bl true))) mNext) (bkΓ L n w S2.length b5 b6) S5=.nx (bkΓ L n w S2.length b5 b6) S6:=by
      have hl:=hlt S5 gs h5 (by omega)
      by_cases hg:gs=[]
      · subst hg
        have hgk:GOk n [(n:Int) - 1]:=⟨fun h hh=>by rw [List.mem_singleton.mp hh]; omega,by simp,by simp⟩
        obtain ⟨k1,k2,k3⟩:=G5.add hgk (by simp)
        have dp:=dputT_at h5 (by simp) [(n:Int) - 1]
        refine ⟨addG [] [(n:Int) - 1],S5.set S2.length (.dtp (encG (addG [] [(n:Int) - 1]))),k1,k3,by simp at k2; omega,T5.of (by rw [List.getElem?_set_ne (fun z=>hLD z.symm)]),by rw [List.getElem?_set_self hD5],?_⟩
        have hl:cLenT S5 [.ref S2.length]=.ok (.int 0) S5:=hl
        have dp:dputT S5 (.ref S2.length) (.tup [.int ((n:Int) - 1)]) (.bl true)=some (S5.set S2.length (.dtp (encG (addG [] [(n:Int) - 1])))):=dp
        unfold bkΓ
        generalize S5.set S2.length (Cell.dtp (encG (addG [] [(n:Int) - 1])))=S6 at *
        simp -implicitDefEqProofs [hl,lim_eq,dp]
      · refine ⟨gs,S5,G5,hg,by omega,T5,h5,?_⟩
        have h0:¬ ((gs.length:Int)=0):=by have:=List.length_pos_iff.mpr hg; omega
        have h0':¬ gs=[]:=hg
        unfold bkΓ
        simp -implicitDefEqProofs [hl,h0,h0']
    obtain ⟨gs',S6,k1,k2,k3,T6,h6,e6⟩:=mid
    have hso:cSortD S6 [.ref S2.length]=.ok (.lst ((sortL gs').map Q3)) S6:=by
      unfold cSortD
      have h1:dtpOf S6 (.ref S2.length)=some (encG gs'):=by simp only [dtpOf,h6]
      simp only [h1,keysI_enc fun g hg=>(k1.ok g hg).2]
      rw [if_pos (by omega)]
    have hp:=sortL_perm gs'
    refine ⟨n,sortL gs',S6,hn1,hn6,⟨by omega,by omega,fun z=>?_,fun g hg=>k1.ok g (hp.mem_iff.mp hg),strict_sort k1.nd,by rw [hp.length_eq]; omega⟩,T6,ret ?_⟩
    · rw [z] at hp
      exact k2 (List.nil_perm.mp hp)
    · have s1:∀ Y:MS,(mSeqS (mSet 2 (mOp oAdd (mC (.int 1)) (mCallF 2 F__law_e_digit (Q4 (Q5 0) (Q4 (Q5 1) Qe)))))
        (mSeqS (mSet 3 (mCallF 2 F__law_e_digit (Q4 (Q5 0) (Q4 (mC (.int 4)) Qe))))
        (mSeqS (mIfS (toB (mOp oEq (Q5 3) (mC (.int 0)))) (mRet (mTup (Q4 (Q5 2) (Q4 (mCall cTuple (Q4 (mCallF 2 F__law_e_sized (Q4 (Q5 2) (Q4 (mOp oAdd (mC (.int 1)) (mCallF 2 F__law_e_digit (Q4 (Q5 0) (Q4 (Q5 2) Qe)))) Qe))) Qe)) Qe)))) mNext)
        (mSeqS (mSet 4 mDispT)
        (mSeqS (mFor (gaName 5) (mRange1 (Q4 (mOp oAdd (mC (.int 1)) (mCallF 2 F__law_e_digit (Q4 (Q5 0) (Q4 (mC (.int 6)) Qe)))) Qe)) b__law_e_book_1) Y))))) [some (.ref L),some (.int 6),none,none,none,none,none] S=Y (bkΓ L n w S2.length b5 b6) S5:=fun Y=>by
        unfold bkΓ at e5 ⊢
        simp -implicitDefEqProofs [e1,e2,hn,w0,w0',e4,hkk,lim_eq,hkb,e5]
      unfold m__law_e_book
      rw [s1,mSeqS_eq,e6]
      show mRet _ _ _=_
      unfold Q8 setsV bkΓ
      generalize (sortL gs').map Q3=ov at *
      simp -implicitDefEqProofs [hso,lim_eq]
theorem in_grp (x:Int) (g:List Int) (st:Q0) (neg:Bool):oIn neg st (.int x) (Q3 g)=.ok (.bl (decide (x ∈ g) != neg)) st:=by
  have h1:(g.map PV.int).all (good dep)=true:=by simp [good]
  have h2:((g.map PV.int).any fun y=>peq y (.int x))=decide (x ∈ g):=by
    rw [List.any_map]
    by_cases h:x ∈ g
    · rw [decide_eq_true h,List.any_eq_true]
      exact ⟨x,h,by simp [peq]⟩
    · rw [decide_eq_false h,List.any_eq_false]
      intro y hy z
      simp [peq] at z
      exact h (by rw [<- z]; exact hy)
  unfold oIn Q3
  simp only [seqOf_tup]
  have hd:der st (.int x)=.int x:=rfl
  rw [hd,if_pos ⟨rfl,h1⟩,h2]
def meetB (a b:List Int):Bool:=a.any fun x=>decide (x ∈ b)
theorem meetB_comm (a b:List Int):meetB a b=meetB b a:=by
  have key:∀ a b:List Int,meetB a b=true->meetB b a=true:=fun a b h=>by
    unfold meetB at *
    rw [List.any_eq_true] at *
    obtain ⟨x,h1,h2⟩:=h
    exact ⟨x,by simpa using h2,by simpa using h1⟩
  cases h:meetB a b with
  | true=>rw [key a b h]
  | false=>
    cases h2:meetB b a with
    | false=>rfl
    | true=>rw [key b a h2] at h; cases h
theorem meets_ok {n:Int} {a b:List Int} (ha:a.length<=20) (st:Q0):F_meets [Q3 a,Q3 b] st=.ok (.bl (meetB a b)) st:=by
  have hc:compG (gaName 0) mTrue e_meets_1 [] (capG [none,some 1] [some (Q3 a),some (Q3 b)]) (a.map PV.int) st=.ok ((a.map fun x=>decide (x ∈ b)).map .bl) st:=by
    rw [List.map_map]
    refine compG_on PV.int (fun x=>PV.bl (decide (x ∈ b))) (by simp) fun x hx=>⟨_,rfl,?_⟩
    have:=in_grp x b st false
    rw [Bool.bne_false] at this
    generalize Q3 a=av at *
    generalize Q3 b=bv at *
    simp [capG,e_meets_1,this]
  have hm:meetB a b=(a.map fun x=>decide (x ∈ b)).any id:=by unfold meetB; rw [List.any_map]; rfl
  have hl:(a.map PV.int).length<=1000000:=by rw [List.length_map]; omega
  rw [hm]
  have hta:Q3 a=.tup (a.map PV.int):=rfl
  rw [hta] at hc ⊢
  generalize (a.map fun x=>decide (x ∈ b))=bs at *
  generalize a.map PV.int=av at *
  generalize Q3 b=bv at *
  simp -implicitDefEqProofs [F_meets,callF,m_meets,hl,lim_eq,hc]
def firstG (gs:List (List Int)) (a:List Int):Option (List Int):=gs.find? fun g=>!meetB a g
def optV:Option (List Int)->PV
  | none=>.non
  | some g=>Q3 g
theorem without_ok {n:Int} {gs:List (List Int)} (hl:gs.length<=100) {a:List Int} (ha:a.length<=20) (st:Q0):F_set_without [Q8 n gs,Q3 a] st=.ok (optV (firstG gs a)) st:=by
  have key:∀ (l:List (List Int)) (b2:Option PV),(∃ c2,forG (gaName 2) b_set_without_1 [] (l.map Q3) [some (Q8 n gs),some (Q3 a),b2] st=.nx [some (Q8 n gs),some (Q3 a),c2] st/\firstG l a=none)\/(∃ g,forG (gaName 2) b_set_without_1 [] (l.map Q3) [some (Q8 n gs),some (Q3 a),b2] st=.rt (Q3 g) st/\firstG l a=some g):=by
    intro l
    induction l with
    | nil=>intro b2; exact .inl ⟨b2,by simp [forG],rfl⟩
    | cons x l ih=>
      intro b2
      have hx:=meets_ok (n:=n) (a:=a) (b:=x) ha st
      have hb:b_set_without_1 [some (Q8 n gs),some (Q3 a),some (Q3 x)] st=if meetB a x=true then .nx [some (Q8 n gs),some (Q3 a),some (Q3 x)] st else .rt (Q3 x) st:=by
        generalize Q8 n gs=bv at *
        generalize Q3 a=av at *
        generalize Q3 x=xv at *
        cases q:meetB a x <;> (rw [q] at hx; simp -implicitDefEqProofs [b_set_without_1,hx])
      rw [List.map_cons,forG,if_pos (by simp)]
      show (∃ c2,(match b_set_without_1 [some (Q8 n gs),some (Q3 a),some (Q3 x)] st with
        | .nx Γ2 st2=>forG (gaName 2) b_set_without_1 [] (l.map Q3) Γ2 st2
        | .ct Γ2 st2=>forG (gaName 2) b_set_without_1 [] (l.map Q3) Γ2 st2
        | .bk Γ2 st2=>.nx Γ2 st2
        | .rt v st2=>.rt v st2
        | .exc x st2=>.exc x st2
        | .stuck=>.stuck)=.nx [some (Q8 n gs),some (Q3 a),c2] st/\_)\/(∃ g,(match b_set_without_1 [some (Q8 n gs),some (Q3 a),some (Q3 x)] st with
        | .nx Γ2 st2=>forG (gaName 2) b_set_without_1 [] (l.map Q3) Γ2 st2
        | .ct Γ2 st2=>forG (gaName 2) b_set_without_1 [] (l.map Q3) Γ2 st2
        | .bk Γ2 st2=>.nx Γ2 st2
        | .rt v st2=>.rt v st2
        | .exc x st2=>.exc x st2
        | .stuck=>.stuck)=.rt (Q3 g) st/\_)
      rw [hb]
      cases q:meetB a x with
      | true=>
        have hf:firstG (x :: l) a=firstG l a:=by unfold firstG; rw [List.find?_cons,q]; rfl
        rw [if_pos rfl,hf]
        exact ih _
      | false=>
        rw [if_neg (by simp)]
        exact .inr ⟨x,rfl,by unfold firstG; rw [List.find?_cons,q]; rfl⟩
  have hll:(gs.map Q3).length<=1000000:=by rw [List.length_map]; omega
  have hix:oIx st (Q8 n gs) (.int 1)=.ok (.tup (gs.map Q3)) st:=rfl
  rcases key gs none with ⟨c2,e,hf⟩ | ⟨g,e,hf⟩
  · rw [hf]
    generalize Q8 n gs=bv at *
    generalize gs.map Q3=gv at *
    generalize Q3 a=av at *
    simp -implicitDefEqProofs [F_set_without,callF,m_set_without,hix,hll,lim_eq,e,optV]
  · rw [hf]
    have hg:good 12 (Q3 g)=true:=by simp [good,Q3]
    have hz:=fz_good (n:=st.length) (st:=st) (k:=16) hg (by decide)
    show _=Res.ok (Q3 g) st
    have step:m_set_without [some (Q8 n gs),some (Q3 a),none] st=.rt (Q3 g) st:=by
      generalize Q8 n gs=bv at *
      generalize gs.map Q3=gv at *
      generalize Q3 a=av at *
      generalize Q3 g=gg at *
      simp -implicitDefEqProofs [m_set_without,hix,hll,lim_eq,e]
    show callF m_set_without 3 _ st=_
    unfold callF
    rw [show (([Q8 n gs,Q3 a]:List PV).map some ++ List.replicate (3 - [Q8 n gs,Q3 a].length) none)=[some (Q8 n gs),some (Q3 a),none] from rfl,step]
    show fin st (Q3 g) st=_
    unfold fin
    rw [if_pos (List.prefix_refl _),hz]; rfl
theorem ret_opt {F:FN} {m:MS} {n:Nat} (hF:F=callF m n) {ps:List PV} {st:Q0} {o:Option (List Int)} (h:m (ps.map some ++ List.replicate (n - ps.length) none) st=.rt (optV o) st):F ps st=.ok (optV o) st:=by
  have hg:good 12 (optV o)=true:=by cases o <;> simp [good,Q3,optV]
  have hz:=fz_good (n:=st.length) (st:=st) (k:=16) hg (by decide)
  rw [hF]
  unfold callF
  rw [h]
  show fin st (optV o) st=_
  unfold fin
  rw [if_pos (List.prefix_refl _),hz]; rfl
theorem free_ok {n:Int} {gs:List (List Int)} (B:BOk n gs) {a:List Int} (ha:GOk n a) (st:Q0):F_free_set [Q8 n gs,Q3 a] st=.ok (optV (firstG gs a)) st:=by
  have h1:=need_book_ok B st
  have h2:=rising_houses ha st
  have h3:=without_ok (n:=n) (gs:=gs) (by have:=B.len; omega) (a:=a) ha.len st
  have hix:oIx st (Q8 n gs) (.int 0)=.ok (.int n) st:=rfl
  refine ret_opt (m:=m_free_set) (n:=2) rfl ?_
  show m_free_set [some (Q8 n gs),some (Q3 a)] st=_
  generalize optV (firstG gs a)=ov at *
  generalize Q8 n gs=bv at *
  generalize Q3 a=av at *
  simp -implicitDefEqProofs [m_free_set,F_need_gone,callF,m_need_gone,h1,h2,h3,hix]
theorem unmet_ok {n:Int} {gs:List (List Int)} (B:BOk n gs) {a:List Int} (ha:GOk n a) (hne:a ≠ []) (st:Q0):F_unmet_set [Q8 n gs,Q3 a] st=.ok (optV (firstG gs a)) st:=by
  have h1:=need_book_ok B st
  have h2:=group_ok ha hne st
  have h3:=without_ok (n:=n) (gs:=gs) (by have:=B.len; omega) (a:=a) ha.len st
  have hix:oIx st (Q8 n gs) (.int 0)=.ok (.int n) st:=rfl
  refine ret_opt (m:=m_unmet_set) (n:=2) rfl ?_
  show m_unmet_set [some (Q8 n gs),some (Q3 a)] st=_
  generalize optV (firstG gs a)=ov at *
  generalize Q8 n gs=bv at *
  generalize Q3 a=av at *
  simp -implicitDefEqProofs [m_unmet_set,F_need_pool_of_book,callF,m_need_pool_of_book,h1,h2,h3,hix]
theorem peq_tup (a b:List Int):peq (Q3 a) (Q3 b)=decide (a=b):=by
  unfold Q3
  rw [peq]
  induction a generalizing b with
  | nil=>cases b <;> simp [peqL]
  | cons x a ih=>cases b with
    | nil=>simp [peqL]
    | cons y b=>
      rw [List.map_cons,List.map_cons,peqL,ih b]
      by_cases h1:x=y <;> by_cases h2:a=b <;> simp [peq,h1,h2]
def lastLt (g:List Int) (h:Nat):Bool:=g.isEmpty || decide (g.getLastD 0 < (h:Int))
def grpStep (n:Nat) (g:List Int):List (List Int):=((List.range n).filter (lastLt g)).map fun h:Nat=>g ++ [(h:Int)]
def grpL (n:Nat):Nat->List (List Int)
  | 0=>[[]]
  | k + 1=>(grpL n k).flatMap (grpStep n)
theorem grp_len:∀ n,n<=9->∀ k,k<=10->(grpL n k).length<=126:=by decide +kernel
theorem last_le {g:List Int} (h:g.Pairwise (· < ·)) {x:Int} (hx:x ∈ g):x<=g.getLastD 0:=by
  induction g generalizing x with
  | nil=>cases hx
  | cons a g ih=>
    obtain ⟨h1,h2⟩:=List.pairwise_cons.mp h
    cases g with
    | nil=>rw [List.mem_singleton.mp hx]; simp
    | cons b g=>
      have e:(a :: b :: g).getLastD 0=(b :: g).getLastD 0:=by simp [List.getLastD]
      rw [e]
      rcases List.mem_cons.mp hx with rfl | hx
      · have:=h1 b (by simp)
        have:=ih h2 (by simp:b ∈ b :: g)
        omega
      · exact ih h2 hx
theorem last_mem {g:List Int} (h:g ≠ []):g.getLastD 0 ∈ g:=by
  have:g.getLastD 0=g.getLast h:=by
    rw [List.getLastD_eq_getLast?,List.getLast?_eq_some_getLast h]; rfl
  rw [this]; exact List.getLast_mem h
theorem mem_grpL {n:Nat}:∀ {k:Nat} {g:List Int},g ∈ grpL n k <-> (g.length=k/\g.Pairwise (· < ·)/\∀ h ∈ g,0<=h/\h < (n:Int))
  | 0,g=>by
    rw [grpL,List.mem_singleton]
    constructor
    · rintro rfl; exact ⟨rfl,List.Pairwise.nil,fun h hh=>by cases hh⟩
    · rintro ⟨h,_⟩; exact List.length_eq_zero_iff.mp h
  | k + 1,g=>by
    rw [grpL,List.mem_flatMap]
    constructor
    · rintro ⟨a,ha,hg⟩
      obtain ⟨h1,h2,h3⟩:=mem_grpL.mp ha
      unfold grpStep at hg
      obtain ⟨h,hh,rfl⟩:=List.mem_map.mp hg
      obtain ⟨hr,hl⟩:=List.mem_filter.mp hh
      have hr:h < n:=by simpa using hr
      have lt:∀ x ∈ a,x < (h:Int):=fun x hx=>by
        unfold lastLt at hl
        have hne:a.isEmpty=false:=by cases a with | nil=>cases hx | cons _ _=>rfl
        rw [hne,Bool.false_or,decide_eq_true_eq] at hl
        have:=last_le h2 hx
        omega
      refine ⟨by simp [h1],List.pairwise_append.mpr ⟨h2,by simp,fun x hx y hy=>by rw [List.mem_singleton.mp hy]; exact lt x hx⟩,fun x hx=>?_⟩
      rcases List.mem_append.mp hx with hx | hx
      · exact h3 x hx
      · rw [List.mem_singleton.mp hx]; omega
    · rintro ⟨h1,h2,h3⟩
      have hne:g ≠ []:=fun z=>by rw [z] at h1; cases h1
      obtain ⟨a,h,rfl⟩:∃ a h,g=a ++ [h]:=⟨g.dropLast,g.getLast hne,(List.dropLast_concat_getLast hne).symm⟩
      obtain ⟨p1,_,p3⟩:=List.pairwise_append.mp h2
      have hh:=h3 h (by simp)
      refine ⟨a,mem_grpL.mpr ⟨by simpa using h1,p1,fun x hx=>h3 x (List.mem_append_left _ hx)⟩,?_⟩
      unfold grpStep
      refine List.mem_map.mpr ⟨h.toNat,List.mem_filter.mpr ⟨by simp; omega,?_⟩,by rw [Int.toNat_of_nonneg hh.1]⟩
      unfold lastLt
      cases z:a.isEmpty with
      | true=>rfl
      | false=>
        rw [Bool.false_or,decide_eq_true_eq,Int.toNat_of_nonneg hh.1]
        exact p3 _ (last_mem (by intro q; rw [q] at z; cases z)) h (by simp)
theorem grp_gok {n k:Nat} {g:List Int} (hk:k<=20) (h:g ∈ grpL n k):GOk n g:=by
  obtain ⟨h1,h2,h3⟩:=mem_grpL.mp h
  exact ⟨h3,h2,by omega⟩
theorem last_ix {g:List Int} (h:g ≠ []) (st:Q0):oIx st (Q3 g) (.int (-1))=.ok (.int (g.getLastD 0)) st:=by
  unfold Q3
  rw [oIx_tup]
  obtain ⟨a,x,rfl⟩:∃ a x,g=a ++ [x]:=⟨g.dropLast,g.getLast h,(List.dropLast_concat_getLast h).symm⟩
  have e1:(a ++ [x]).getLastD 0=x:=by simp [List.getLastD_eq_getLast?]
  have e2:atI ((a ++ [x]).map PV.int) (-1)=some (.int x):=by
    unfold L2.atI
    have hl:((a ++ [x]).map PV.int).length=a.length + 1:=by simp
    have:ixN ((a ++ [x]).map PV.int).length (-1)=some a.length:=by
      rw [hl]
      unfold ixN
      have h1:((-1:Int) < 0):=by omega
      have h2:(0:Int)<=-1 + ((a.length + 1:Nat):Int)/\-1 + ((a.length + 1:Nat):Int) < ((a.length + 1:Nat):Int):=by omega
      simp [h1]
      omega
    rw [this]
    show ((a ++ [x]).map PV.int)[a.length]?=_
    simp
  rw [e2,e1]; rfl
abbrev goΓ (n k:Int) (G:PV) (a3 a4 a5:Option PV):Gam:=[some (.int n),some (.int k),some G,a3,a4,a5]
theorem go_comp {n:Nat} (hn:n<=9) {g:List Int} (hl:g.length<=20) (k:Int) (G:PV) (a3 a4:Option PV) (st:Q0):compG (gaName 0) t_groups_of_1 e_groups_of_1 [] (capG [none,some 5] (goΓ n k G a3 a4 (some (Q3 g)))) (rangeI 0 n) st=.ok ((grpStep n g).map Q3) st:=by
  rw [rangeI0]
  unfold grpStep
  rw [List.map_map]
  refine compG_onF (fun h:Nat=>PV.int (h:Int)) (fun h:Nat=>Q3 (g ++ [(h:Int)])) (lastLt g) (by simp) fun h _=>⟨_,rfl,?_,fun _=>?_⟩
  · have hc:cLen st [Q3 g]=.ok (.int (g.length:Nat)) st:=by simp [Q3]
    unfold lastLt
    by_cases z:g=[]
    · subst z
      simp -implicitDefEqProofs [capG,t_groups_of_1,Q3]
    · have h0:¬ (g.length=0):=fun q=>z (List.length_eq_zero_iff.mp q)
      have h0':¬ ((g.length:Int)=0):=by omega
      have hlx:=last_ix z st
      have he:g.isEmpty=false:=by cases g with | nil=>exact absurd rfl z | cons _ _=>rfl
      rw [he]
      generalize g.getLastD 0=la at *
      generalize Q3 g=gv at *
      generalize g.length=gl at *
      simp -implicitDefEqProofs [capG,t_groups_of_1,hc,h0,h0',hlx]
  · have hz:(g.map PV.int).length + 1<=1000000:=by rw [List.length_map]; omega
    unfold Q3
    rw [List.map_append]
    generalize g.map PV.int=gv at *
    simp -implicitDefEqProofs [capG,e_groups_of_1,lim_eq,hz]
theorem src_grow {st0:Q0} {G:PV} {xs:List PV} (h:ListAt st0 G xs):∃ w,∀ T,srcOf (st0 ++ T) G=some (xs,w)/\wOk w (st0 ++ T):=by
  rcases h with rfl | rfl | ⟨i,rfl,e⟩
  · exact ⟨[],fun T=>⟨rfl,by simp⟩⟩
  · exact ⟨[],fun T=>⟨rfl,by simp⟩⟩
  · refine ⟨[(i,.lst xs)],fun T=>?_⟩
    have e':(st0 ++ T)[i]?=some (.lst xs):=by rw [List.getElem?_append_left (List.getElem?_eq_some_iff.mp e).1]; exact e
    refine ⟨srcOf_ref e',fun x hx=>?_⟩
    have:x=(i,.lst xs):=by simpa using hx
    subst this
    exact e'
theorem go_in {n:Nat} (hn:n<=9) {gs:List (List Int)} (hgs:∀ g ∈ gs,g.length<=20) (htot:(gs.flatMap (grpStep n)).length<=126) {st0:Q0} {w:Wt} (hw:∀ T,wOk w (st0 ++ T)) (k:Int) (G:PV) (a3 a5:Option PV) :
    ∃ b5,forG (gaName 5) b_groups_of_2 w (gs.map Q3) (goΓ n k G a3 (some (.ref st0.length)) a5) (st0 ++ [.lst []])=.nx (goΓ n k G a3 (some (.ref st0.length)) b5) (st0 ++ [.lst ((gs.flatMap (grpStep n)).map Q3)]):=by
  obtain ⟨Γ',st',e,b5,rfl,rfl⟩:=forG_invL (g:=Q3) (xs:=gs) (ga:=gaName 5) (body:=b_groups_of_2) (w:=w) (Γ:=goΓ n k G a3 (some (.ref st0.length)) a5) (st:=st0 ++ [.lst []])
    (fun pre Γ st'=>∃ b5,Γ=goΓ n k G a3 (some (.ref st0.length)) b5/\st'=st0 ++ [.lst ((pre.flatMap (grpStep n)).map Q3)])
    (fun _ _ _ ⟨_,_,e⟩=>by rw [e]; exact hw _)
    (fun pre g post Γ st' hx ⟨b5,e1,e2⟩=>by
      subst e1; subst e2
      have hg:g ∈ gs:=by rw [hx]; simp
      have hc:=go_comp hn (hgs g hg) k G a3 (some (.ref st0.length)) (st0 ++ [.lst ((pre.flatMap (grpStep n)).map Q3)])
      have hb:-1000000<=(n:Int)/\(n:Int)<=1000000:=by omega
      have hM:(st0 ++ [Cell.lst ((pre.flatMap (grpStep n)).map Q3)])[st0.length]?=some (.lst ((pre.flatMap (grpStep n)).map Q3)):=by simp
      have hlo:listOf (st0 ++ [Cell.lst ((pre.flatMap (grpStep n)).map Q3)]) (.ref st0.length)=some ((pre.flatMap (grpStep n)).map Q3):=listOf_ref hM
      have hll:((pre.flatMap (grpStep n)).map Q3).length + ((grpStep n g).map Q3).length<=1000000:=by
        rw [List.length_map,List.length_map]
        have:(gs.flatMap (grpStep n)).length=(pre.flatMap (grpStep n)).length + ((grpStep n g).length + (post.flatMap (grpStep n)).length):=by
          rw [hx,List.flatMap_append,List.flatMap_cons,List.length_append,List.length_append]
        omega
      have hset:(st0 ++ [Cell.lst ((pre.flatMap (grpStep n)).map Q3)]).set st0.length (.lst ((pre.flatMap (grpStep n)).map Q3 ++ (grpStep n g).map Q3))=st0 ++ [.lst (((pre ++ [g]).flatMap (grpStep n)).map Q3)]:=by
        rw [tr_set,List.flatMap_append,List.map_append]; simp
      refine ⟨_,rfl,goΓ n k G a3 (some (.ref st0.length)) (some (Q3 g)),_,?_,_,rfl,hset⟩
      rw [show List.set (goΓ n k G a3 (some (.ref st0.length)) b5) 5 (some (Q3 g))=goΓ n k G a3 (some (.ref st0.length)) (some (Q3 g)) from rfl]
      have hmt:mtExtend (st0 ++ [Cell.lst ((pre.flatMap (grpStep n)).map Q3)]) (.ref st0.length) [.lst ((grpStep n g).map Q3)]=.ok .non ((st0 ++ [Cell.lst ((pre.flatMap (grpStep n)).map Q3)]).set st0.length (.lst ((pre.flatMap (grpStep n)).map Q3 ++ (grpStep n g).map Q3))):=by
        unfold mtExtend chg
        simp only [lstOf,hM]
        rw [if_pos (show _<=lim from hll)]
      clear hset hM
      unfold goΓ at hc ⊢
      generalize (st0 ++ [Cell.lst ((pre.flatMap (grpStep n)).map Q3)]).set st0.length (.lst ((pre.flatMap (grpStep n)).map Q3 ++ (grpStep n g).map Q3))=S2 at *
      generalize st0 ++ [Cell.lst ((pre.flatMap (grpStep n)).map Q3)]=S1 at *
      generalize (pre.flatMap (grpStep n)).map Q3=pv at *
      generalize (grpStep n g).map Q3=gv at *
      simp -implicitDefEqProofs [b_groups_of_2,hlo,hb,lim_eq,hc,hmt,-listOf_r])
    ⟨_,rfl,rfl⟩
  exact ⟨b5,e⟩
theorem fzL_tups (n:Nat) (st:Q0):∀ gs:List (List Int),fzL n st 15 (gs.map Q3)=some (gs.map Q3)
  | []=>by rw [List.map_nil,fzL]
  | g :: gs=>by
    have h1:fz n st 15 (Q3 g)=some (Q3 g):=fz_good (m:=1) (by simp [good,Q3]) (by decide)
    rw [List.map_cons,fzL,h1,fzL_tups n st gs]; rfl
theorem groups_ok {n k:Nat} (hn:n<=9) (hk:k<=10) (S:Q0):F_groups_of [.int n,.int k] S=.ok (.lst ((grpL n k).map Q3)) S:=by
  obtain ⟨Γ',st',e,G,b3,b4,b5,T,rfl,rfl,hG⟩:=forG_inv (g:=fun k:Nat=>PV.int (k:Int)) (xs:=List.range k) (ga:=gaName 3) (body:=b_groups_of_1) (w:=[]) (Γ:=goΓ n k (.lst [.tup []]) none none none) (st:=S)
    (fun i Γ st'=>∃ G b3 b4 b5 T,Γ=goΓ n k G b3 b4 b5/\st'=S ++ T/\(G=.lst ((grpL n i).map Q3)\/∃ r,G=.ref r/\S.length<=r/\(S ++ T)[r]?=some (.lst ((grpL n i).map Q3))))
    (fun _ _ _ _=>by simp)
    (fun i x Γ st' hx ⟨G,b3,b4,b5,T,e1,e2,hG⟩=>by
      subst e1; subst e2
      have hi:i < k:=by simpa using (List.getElem?_eq_some_iff.mp hx).1
      have hA:ListAt (S ++ T) G ((grpL n i).map Q3):=by
        rcases hG with rfl | ⟨r,rfl,_,h⟩
        · exact .inl rfl
        · exact .inr (.inr ⟨r,rfl,h⟩)
      obtain ⟨w,hw⟩:=src_grow hA
      have hl1:=grp_len n hn i (by omega)
      have hl2:=grp_len n hn (i + 1) (by omega)
      obtain ⟨c5,e3⟩:=go_in hn (gs:=grpL n i) (fun g hg=>by have:=(mem_grpL.mp hg).1; omega) (by rw [grpL] at hl2; exact hl2) (w:=w) (fun T'=>(hw T').2) k G (some (.int x)) b5
      have so:=(hw [.lst []]).1
      have hlm:((grpL n i).map Q3).length<=1000000:=by rw [List.length_map]; omega
      refine ⟨_,rfl,goΓ n k (.ref (S ++ T).length) (some (.int x)) (some (.ref (S ++ T).length)) c5,S ++ T ++ [.lst ((grpL n (i + 1)).map Q3)],?_,_,_,_,_,T ++ [.lst ((grpL n (i + 1)).map Q3)],rfl,by rw [List.append_assoc],.inr ⟨_,rfl,by simp,by rw [<- List.append_assoc]; simp⟩⟩
      rw [show List.set (goΓ n k G b3 b4 b5) 3 (some (PV.int x))=goΓ n k G (some (.int x)) b4 b5 from rfl]
      rw [show ((grpL n i).flatMap (grpStep n))=grpL n (i + 1) from rfl] at e3
      unfold goΓ at e3 ⊢
      generalize (grpL n (i + 1)).map Q3=g2 at *
      generalize (grpL n i).map Q3=g1 at *
      generalize S ++ T=S1 at *
      simp -implicitDefEqProofs [b_groups_of_1,so,hlm,lim_eq,e3,-srcOf_r])
    ⟨_,_,_,_,[],rfl,by simp,.inl rfl⟩
  rw [List.length_range] at hG
  rw [<- rangeI0] at e
  have hb:-1000000<=(k:Int)/\(k:Int)<=1000000:=by omega
  have step:m_groups_of [some (.int n),some (.int k),none,none,none,none] S=.rt G (S ++ T):=by
    unfold goΓ at e
    generalize S ++ T=S1 at *
    simp -implicitDefEqProofs [m_groups_of,lim_eq,hb,e]
  show callF m_groups_of 6 _ S=_
  unfold callF
  rw [show (([.int n,.int k]:List PV).map some ++ List.replicate (6 - [PV.int n,.int k].length) none)=[some (.int n),some (.int k),none,none,none,none] from rfl,step]
  show fin S G (S ++ T)=_
  unfold fin
  rw [if_pos (List.prefix_append S T)]
  have:fz S.length (S ++ T) 16 G=some (.lst ((grpL n k).map Q3)):=by
    rcases hG with rfl | ⟨r,rfl,hr,h⟩
    · rw [fz,fzL_tups]; rfl
    · rw [fz,if_neg (by omega),h]
      show (fzL S.length (S ++ T) 15 _).map PV.lst=_
      rw [fzL_tups]; rfl
  rw [this]; rfl
theorem nodup_short:∀ {n:Nat} {L:List Nat},L.Nodup->(∀ x ∈ L,x < n)->L.length<=n
  | 0,[],_,_=>Nat.le_refl _
  | 0,x :: L,_,h=>absurd (h x (by simp)) (Nat.not_lt_zero _)
  | n + 1,L,nd,h=>by
    by_cases z:n ∈ L
    · have h1:=nodup_short (n:=n) (L:=L.erase n) (nd.erase n) fun x hx=>by
        have:=h x (List.mem_of_mem_erase hx)
        have:x ≠ n:=fun e=>by rw [e] at hx; exact (List.Nodup.not_mem_erase nd) hx
        omega
      rw [List.length_erase_of_mem z] at h1
      omega
    · have:=nodup_short (n:=n) nd fun x hx=>by
        have:=h x hx
        have:x ≠ n:=fun e=>z (e ▸ hx)
        omega
      omega
theorem forG_find {α:Type} (g:α->PV) (J:Gam->Prop) (Pd:α->Bool) (v:α->PV) {ga:GA} {body:MS} {w:Wt} {st:Q0} (hw:wOk w st):∀ {xs:List α},(∀ x ∈ xs,∀ Γ,J Γ->∃ Γ1,ga (g x) Γ=some Γ1/\(Pd x=false->∃ Γ2,J Γ2/\body Γ1 st=.nx Γ2 st)/\(Pd x=true->body Γ1 st=.rt (v x) st)) ->
    ∀ Γ,J Γ->(xs.find? Pd=none->∃ Γ',J Γ'/\forG ga body w (xs.map g) Γ st=.nx Γ' st)/\(∀ x,xs.find? Pd=some x->forG ga body w (xs.map g) Γ st=.rt (v x) st)
  | [],_,Γ,hJ=>⟨fun _=>⟨Γ,hJ,by simp [forG,hw]⟩,fun x h=>by simp at h⟩
  | x :: xs,h,Γ,hJ=>by
    obtain ⟨Γ1,h1,h2,h3⟩:=h x List.mem_cons_self Γ hJ
    rw [List.map_cons,forG,if_pos hw,h1,List.find?_cons]
    cases px:Pd x with
    | false=>
      obtain ⟨Γ2,j2,e2⟩:=h2 px
      simp only [e2]
      exact forG_find g J Pd v hw (fun y hy=>h y (List.mem_cons_of_mem _ hy)) Γ2 j2
    | true=>
      simp only [h3 px]
      exact ⟨fun z=>(by cases z),fun y z=>(by cases z; rfl)⟩
def inG (a g:List Int):Bool:=g.all fun x=>decide (x ∈ a)
def withinG (gs:List (List Int)) (a:List Int):Option (List Int):=gs.find? (inG a)
theorem within_ok {n:Int} {gs:List (List Int)} (hl:gs.length<=100) (hg:∀ g ∈ gs,g.length<=20) {a:List Int} (st:Q0):F_set_within [Q8 n gs,Q3 a] st=.ok (optV (withinG gs a)) st:=by
  have key:=forG_find (g:=Q3) (J:=fun Γ=>∃ b2,Γ=[some (Q8 n gs),some (Q3 a),b2]) (Pd:=inG a) (v:=Q3) (ga:=gaName 2) (body:=b_set_within_1) (w:=[]) (st:=st) (by simp) (xs:=gs) (fun g hg' Γ ⟨b2,e⟩=>by
    subst e
    have hc:compG (gaName 0) mTrue e_set_within_1 [] (capG [none,some 1] [some (Q8 n gs),some (Q3 a),some (Q3 g)]) (g.map PV.int) st=.ok ((g.map fun x=>decide (x ∈ a)).map .bl) st:=by
      rw [List.map_map]
      refine compG_on PV.int (fun x=>PV.bl (decide (x ∈ a))) (by simp) fun x hx=>⟨_,rfl,?_⟩
      have:=in_grp x a st false
      rw [show (decide (x ∈ a) != false)=decide (x ∈ a) by simp] at this
      generalize Q8 n gs=bv at *
      generalize Q3 g=gv at *
      generalize Q3 a=av at *
      simp [capG,e_set_within_1,this]
    have hal:(g.map fun x=>decide (x ∈ a)).all id=inG a g:=by unfold inG; rw [List.all_map]; rfl
    have hgl:(g.map PV.int).length<=1000000:=by rw [List.length_map]; have:=hg g hg'; omega
    refine ⟨_,rfl,fun z=>⟨[some (Q8 n gs),some (Q3 a),some (Q3 g)],⟨_,rfl⟩,?_⟩,fun z=>?_⟩
    · rw [z] at hal
      show b_set_within_1 [some (Q8 n gs),some (Q3 a),some (Q3 g)] st=_
      unfold Q3 at hc ⊢
      generalize (g.map fun x=>decide (x ∈ a))=bs at *
      generalize g.map PV.int=gv at *
      generalize Q8 n gs=bv at *
      generalize a.map PV.int=av at *
      simp -implicitDefEqProofs [b_set_within_1,hgl,lim_eq,hc,hal]
    · rw [z] at hal
      show b_set_within_1 [some (Q8 n gs),some (Q3 a),some (Q3 g)] st=_
      unfold Q3 at hc ⊢
      generalize (g.map fun x=>decide (x ∈ a))=bs at *
      generalize g.map PV.int=gv at *
      generalize Q8 n gs=bv at *
      generalize a.map PV.int=av at *
      simp -implicitDefEqProofs [b_set_within_1,hgl,lim_eq,hc,hal]) [some (Q8 n gs),some (Q3 a),none] ⟨_,rfl⟩
  refine ret_opt rfl ?_
  show m_set_within [some (Q8 n gs),some (Q3 a),none] st=_
  have hix:oIx st (Q8 n gs) (.int 1)=.ok (.tup (gs.map Q3)) st:=by simp [Q8,setsV,atI,ixN]
  have hgl:(gs.map Q3).length<=1000000:=by rw [List.length_map]; omega
  unfold withinG
  cases z:gs.find? (inG a) with
  | none=>
    obtain ⟨Γ',⟨b2,rfl⟩,e⟩:=key.1 z
    generalize gs.map Q3=gv at *
    generalize Q8 n gs=bv at *
    generalize Q3 a=av at *
    simp -implicitDefEqProofs [m_set_within,hix,hgl,lim_eq,e,optV]
  | some g=>
    have e:=key.2 g z
    show _=SR.rt (Q3 g) st
    generalize gs.map Q3=gv at *
    generalize Q8 n gs=bv at *
    generalize Q3 a=av at *
    generalize Q3 g=gg at *
    simp -implicitDefEqProofs [m_set_within,hix,hgl,lim_eq,e]
def badG (gs:List (List Int)) (a:List Int):Bool:=(firstG gs a).isNone || (withinG gs a).isSome
def papV (gs:List (List Int)) (a:List Int):PV:=match firstG gs a with
  | none=>.tup [.str "stuck",Q3 a]
  | some _=>.tup [.str "blind",Q3 a,optV (withinG gs a)]
def paperV (n:Nat) (gs:List (List Int)) (f:Nat):PV:=match (grpL n f).find? (badG gs) with
  | none=>.tup [.str "bears",.int f]
  | some a=>papV gs a
theorem opt_non (o:Option (List Int)):isNon (optV o)=o.isNone:=by cases o <;> rfl
theorem fin_pap (S:Q0) (n:Nat) (gs:List (List Int)) (f:Nat):fin S (paperV n gs f) S=.ok (paperV n gs f) S:=by
  have hg:∀ a,good 2 (papV gs a)=true:=fun a=>by
    unfold papV
    split
    · simp [good,Q3]
    · cases withinG gs a <;> simp [good,Q3,optV]
  have:good 2 (paperV n gs f)=true:=by
    unfold paperV
    split
    · simp [good]
    · exact hg _
  unfold fin
  rw [if_pos (List.prefix_refl S),fz_good this (by decide)]; rfl
theorem paper_ok {n f:Nat} (hn:n<=9) (hf:f<=10) {gs:List (List Int)} (hl:gs.length<=100) (hg:∀ g ∈ gs,g.length<=20) (st:Q0):F_paper_of [Q8 n gs,.int f] st=.ok (paperV n gs f) st:=by
  have key:=forG_find (g:=Q3) (J:=fun Γ=>∃ b2 b3,Γ=[some (Q8 n gs),some (.int f),b2,b3]) (Pd:=badG gs) (v:=papV gs) (ga:=gaName 2) (body:=b_paper_of_1) (w:=[]) (st:=st) (by simp) (xs:=grpL n f) (fun a ha Γ ⟨b2,b3,e⟩=>by
    subst e
    have hal:=(mem_grpL.mp ha).1
    have e1:=without_ok (n:=n) hl (a:=a) (by omega) st
    have e2:=within_ok (n:=n) hl hg (a:=a) st
    have i1:=opt_non (firstG gs a)
    have i2:=opt_non (withinG gs a)
    refine ⟨_,rfl,fun z=>⟨[some (Q8 n gs),some (.int f),some (Q3 a),some (optV (withinG gs a))],⟨_,_,rfl⟩,?_⟩,fun z=>?_⟩
    · show b_paper_of_1 [some (Q8 n gs),some (.int f),some (Q3 a),b3] st=_
      unfold badG at z
      cases z1:firstG gs a with
      | none=>rw [z1] at z; simp at z
      | some g1=>
        cases z2:withinG gs a with
        | some g2=>rw [z2] at z; simp at z
        | none=>
          rw [z1] at e1 i1
          rw [z2] at e2
          have e2:F_set_within [Q8 n gs,Q3 a] st=.ok .non st:=e2
          have i1:isNon (optV (some g1))=false:=i1
          show _=SR.nx [some (Q8 n gs),some (.int f),some (Q3 a),some .non] st
          generalize Q8 n gs=bv at *
          generalize Q3 a=av at *
          generalize optV (some g1)=o1 at *
          have j0:isNon .non=true:=rfl
          simp -implicitDefEqProofs [b_paper_of_1,e1,i1,e2,j0]
    · show b_paper_of_1 [some (Q8 n gs),some (.int f),some (Q3 a),b3] st=_
      unfold badG at z
      unfold papV
      cases z1:firstG gs a with
      | none=>
        rw [z1] at e1
        have e1:F_set_without [Q8 n gs,Q3 a] st=.ok .non st:=e1
        generalize Q8 n gs=bv at *
        generalize Q3 a=av at *
        simp -implicitDefEqProofs [b_paper_of_1,e1,isNon,lim_eq]
      | some g1=>
        rw [z1] at z
        cases z2:withinG gs a with
        | none=>rw [z2] at z; simp at z
        | some g2=>
          rw [z1] at e1 i1
          rw [z2] at e2 i2
          have i1:isNon (optV (some g1))=false:=i1
          have i2:isNon (optV (some g2))=false:=i2
          show _=SR.rt (.tup [.str "blind",Q3 a,optV (some g2)]) st
          generalize Q8 n gs=bv at *
          generalize Q3 a=av at *
          generalize optV (some g1)=o1 at *
          generalize optV (some g2)=o2 at *
          simp -implicitDefEqProofs [b_paper_of_1,e1,i1,e2,i2,lim_eq]) [some (Q8 n gs),some (.int f),none,none] ⟨_,_,rfl⟩
  have hix:oIx st (Q8 n gs) (.int 0)=.ok (.int n) st:=by simp [Q8,atI,ixN]
  have hgr:=groups_ok hn hf st
  have hgl:((grpL n f).map Q3).length<=1000000:=by rw [List.length_map]; have:=grp_len n hn f hf; omega
  have step:m_paper_of [some (Q8 n gs),some (.int f),none,none] st=.rt (paperV n gs f) st:=by
    unfold paperV
    cases z:(grpL n f).find? (badG gs) with
    | none=>
      obtain ⟨Γ',⟨b2,b3,rfl⟩,e⟩:=key.1 z
      generalize (grpL n f).map Q3=gv at *
      generalize Q8 n gs=bv at *
      simp -implicitDefEqProofs [m_paper_of,hix,hgr,hgl,lim_eq,e]
    | some a=>
      have e:=key.2 a z
      show _=SR.rt (papV gs a) st
      generalize (grpL n f).map Q3=gv at *
      generalize Q8 n gs=bv at *
      generalize papV gs a=pv at *
      simp -implicitDefEqProofs [m_paper_of,hix,hgr,hgl,lim_eq,e]
  show callF m_paper_of 4 _ st=_
  unfold callF
  rw [show (([Q8 n gs,.int f]:List PV).map some ++ List.replicate (4 - [Q8 n gs,.int f].length) none)=[some (Q8 n gs),some (.int f),none,none] from rfl,step]
  exact fin_pap st n gs f
theorem bears_ok {n f:Nat} (hf:f<=10) {gs:List (List Int)} (B:BOk n gs) (st:Q0):F_bears [Q8 n gs,.int f] st=.ok (paperV n gs f) st:=by
  have hn:n<=9:=by have:=B.n9; omega
  have e1:=need_book_ok B st
  have e2:=paper_ok hn hf (by have:=B.len; omega) (fun g hg=>(B.ok g hg).1.len) st
  have step:m_bears [some (Q8 n gs),some (.int f)] st=.rt (paperV n gs f) st:=by
    generalize Q8 n gs=bv at *
    generalize paperV n gs f=pv at *
    simp -implicitDefEqProofs [m_bears,e1,e2]
  show callF m_bears 2 _ st=_
  unfold callF
  rw [show (([Q8 n gs,.int f]:List PV).map some ++ List.replicate (2 - [Q8 n gs,.int f].length) none)=[some (Q8 n gs),some (.int f)] from rfl,step]
  exact fin_pap st n gs f
def brB (n:Nat) (gs:List (List Int)) (f:Nat):Bool:=((grpL n f).find? (badG gs)).isNone
theorem pap_head (n:Nat) (gs:List (List Int)) (f:Nat) (st:Q0):∃ s:Str,oIx st (paperV n gs f) (.int 0)=.ok (.str s) st/\(decide (s = "bears"))=brB n gs f:=by
  unfold paperV brB
  cases (grpL n f).find? (badG gs) with
  | none=>exact ⟨"bears",by simp [atI,ixN],by simp⟩
  | some a=>
    have k1:decide (("stuck" : Str) = "bears")=false:=by decide
    have k2:decide (("blind" : Str) = "bears")=false:=by decide
    unfold papV
    cases z:firstG gs a with
    | none=>exact ⟨"stuck",by simp [z,atI,ixN],k1⟩
    | some _=>exact ⟨"blind",by simp [z,atI,ixN],k2⟩
theorem full_group {n:Nat} {a:List Int} (h:a ∈ grpL n n) {x:Int} (h0:0<=x) (hx:x < n):x ∈ a:=by
  obtain ⟨h1,h2,h3⟩:=mem_grpL.mp h
  have nd:a.Nodup:=h2.imp fun {u v} huv=>by omega
  by_cases z:x ∈ a
  · exact z
  · exfalso
    have nd':(x :: a).Nodup:=List.nodup_cons.mpr ⟨z,nd⟩
    have ndn:((x :: a).map Int.toNat).Nodup:=by
      refine List.pairwise_map.mpr ?_
      refine List.Pairwise.imp_of_mem (fun {u v} hu hv hne e=>hne ?_) nd'
      have pos:∀ y ∈ x :: a,0<=y:=fun y hy=>by
        rcases List.mem_cons.mp hy with rfl | hy
        · exact h0
        · exact (h3 y hy).1
      have:=pos u hu
      have:=pos v hv
      omega
    have hl:=nodup_short ndn (n:=n) fun y hy=>by
      obtain ⟨u,hu,rfl⟩:=List.mem_map.mp hy
      rcases List.mem_cons.mp hu with rfl | hu
      · omega
      · have:=h3 u hu; omega
    rw [List.length_map,List.length_cons] at hl
    omega
theorem all_range {n:Nat}:((List.range n).map fun k:Nat=>(k:Int)) ∈ grpL n n:=by
  refine mem_grpL.mpr ⟨by simp,List.pairwise_map.mpr (List.pairwise_lt_range.imp fun h=>by omega),fun h hh=>?_⟩
  obtain ⟨k,hk,rfl⟩:=List.mem_map.mp hh
  have:k < n:=by simpa using hk
  omega
theorem br_full {n:Nat} {gs:List (List Int)} (B:BOk n gs):brB n gs n=false:=by
  have hb:badG gs ((List.range n).map fun k:Nat=>(k:Int))=true:=by
    unfold badG
    have:firstG gs ((List.range n).map fun k:Nat=>(k:Int))=none:=by
      unfold firstG
      rw [List.find?_eq_none]
      intro g hg
      obtain ⟨x,hx⟩:∃ x,x ∈ g:=by
        cases g with
        | nil=>exact absurd rfl (B.ok _ hg).2
        | cons x _=>exact ⟨x,by simp⟩
      obtain ⟨p1,p2⟩:=(B.ok g hg).1.rng x hx
      have hm:=full_group (all_range (n:=n)) p1 p2
      have:meetB ((List.range n).map fun k:Nat=>(k:Int)) g=true:=by
        unfold meetB
        rw [List.any_eq_true]
        exact ⟨x,hm,by simpa using hx⟩
      rw [this]; simp
    rw [this]; rfl
  unfold brB
  cases z:(grpL n n).find? (badG gs) with
  | none=>exact absurd hb (by have:=List.find?_eq_none.mp z _ (all_range (n:=n)); simpa using this)
  | some _=>rfl
theorem most_ex {n:Nat} {gs:List (List Int)} (B:BOk n gs):∃ m,m < n/\brB n gs (m + 1)=false/\∀ f,1<=f->f<=m->brB n gs f=true:=by
  have h1:1<=n:=by have:=B.n1; omega
  have key:∀ d,d<=n - 1->(∀ f,1<=f->f<=n - 1 - d->brB n gs f=true)->∃ m,m < n/\brB n gs (m + 1)=false/\∀ f,1<=f->f<=m->brB n gs f=true:=by
    intro d
    induction d with
    | zero=>intro _ h; exact ⟨n - 1,by omega,by rw [show n - 1 + 1=n by omega]; exact br_full B,fun f h1 h2=>h f h1 (by omega)⟩
    | succ d ih=>
      intro hd h
      cases z:brB n gs (n - 1 - (d + 1) + 1) with
      | false=>exact ⟨n - 1 - (d + 1),by omega,z,h⟩
      | true=>
        refine ih (by omega) fun f h1 h2=>?_
        by_cases q:f=n - 1 - (d + 1) + 1
        · rw [q]; exact z
        · exact h f h1 (by omega)
  exact key (n - 1) (Nat.le_refl _) fun f h1 h2=>by omega
theorem most_ok {n:Nat} {gs:List (List Int)} (B:BOk n gs) (st:Q0):∃ m,m < n/\brB n gs (m + 1)=false/\(∀ f,1<=f->f<=m->brB n gs f=true)/\F_most_borne [Q8 n gs] st=.ok (.tup [.int m,paperV n gs (m + 1)]) st:=by
  obtain ⟨m,hm,hf,ht⟩:=most_ex B
  have hn:n<=9:=by have:=B.n9; omega
  refine ⟨m,hm,hf,ht,?_⟩
  have e1:=need_book_ok B st
  have pp:∀ f:Nat,f<=9->F_paper_of [Q8 n gs,.int ((f:Int) + 1)] st=.ok (paperV n gs (f + 1)) st:=fun f h=>by
    have:=paper_ok hn (f:=f + 1) (by omega) (by have:=B.len; omega) (fun g hg=>(B.ok g hg).1.len) st (gs:=gs)
    rw [show ((f + 1:Nat):Int)=(f:Int) + 1 by push_cast; rfl] at this
    exact this
  have wt:∀ f:Nat,f<=9->w_most_borne_1 [some (Q8 n gs),some (.int f)] st=.ok (brB n gs (f + 1)) st:=fun f h=>by
    have p:=pp f h
    obtain ⟨s,q1,q2⟩:=pap_head n gs (f + 1) st
    rw [<- q2]
    have q3:(decide (s = "bears"))=(s == "bears"):=by
      by_cases z:s = "bears"
      · rw [z]; simp
      · rw [decide_eq_false z]; exact (beq_eq_false_iff_ne.mpr z).symm
    generalize Q8 n gs=bv at *
    generalize paperV n gs (f + 1)=pv at *
    simp -implicitDefEqProofs [w_most_borne_1,p,q1]
    exact q3.symm
  have wl:∀ d f:Nat,f + d=m->∀ k,d < k->whileG w_most_borne_1 b_most_borne_1 k [some (Q8 n gs),some (.int f)] st=.nx [some (Q8 n gs),some (.int m)] st:=by
    intro d
    induction d with
    | zero=>
      intro f hfd k hk
      obtain ⟨k,rfl⟩:∃ j,k=j + 1:=⟨k - 1,by omega⟩
      have:f=m:=by omega
      subst this
      rw [whileG,wt f (by omega),hf]
      rfl
    | succ d ih=>
      intro f hfd k hk
      obtain ⟨k,rfl⟩:∃ j,k=j + 1:=⟨k - 1,by omega⟩
      rw [whileG,wt f (by omega),ht (f + 1) (by omega) (by omega)]
      have hb:b_most_borne_1 [some (Q8 n gs),some (.int f)] st=.nx [some (Q8 n gs),some (.int ((f + 1:Nat):Int))] st:=by
        rw [show ((f + 1:Nat):Int)=(f:Int) + 1 by push_cast; rfl]
        rfl
      simp only [sbind_ok,if_true,hb]
      exact ih (f + 1) (by omega) k (by omega)
  have w0:=wl m 0 (by omega) 100000 (by omega)
  rw [show ((0:Nat):Int)=0 from rfl] at w0
  have pm:=pp m (by omega)
  have step:m_most_borne [some (Q8 n gs),none] st=.rt (.tup [.int m,paperV n gs (m + 1)]) st:=by
    generalize Q8 n gs=bv at *
    generalize paperV n gs (m + 1)=pv at *
    simp -implicitDefEqProofs [m_most_borne,e1,w0,pm,lim_eq]
  show callF m_most_borne 2 _ st=_
  unfold callF
  rw [show (([Q8 n gs]:List PV).map some ++ List.replicate (2 - [Q8 n gs].length) none)=[some (Q8 n gs),none] from rfl,step]
  show fin st (.tup [.int m,paperV n gs (m + 1)]) st=_
  have hg:good 3 (.tup [.int m,paperV n gs (m + 1)])=true:=by
    have:good 2 (paperV n gs (m + 1))=true:=by
      unfold paperV
      split
      · simp [good]
      · unfold papV
        split
        · simp [good,Q3]
        · cases withinG gs _ <;> simp [good,Q3,optV]
    simp [good,this]
  unfold fin
  rw [if_pos (List.prefix_refl st),fz_good hg (by decide)]; rfl
theorem btw_no {V:PV} {a b:Int} {st:Q0} (h:F_is_whole [V] st=.ok (.bl false) st):F_is_between [V,.int a,.int b] st=.ok (.bl false) st:=by
  simp -implicitDefEqProofs [F_is_between,callF,m_is_between,h]
theorem whole_bl (b:Bool) (st:Q0):F_is_whole [.bl b] st=.ok (.bl false) st:=by simp [F_is_whole,callF,m_is_whole,isI,tyN]
theorem whole_str (b:Str) (st:Q0):F_is_whole [.str b] st=.ok (.bl false) st:=by simp [F_is_whole,callF,m_is_whole,isI,tyN]
theorem whole_tup (b:List PV) (st:Q0):F_is_whole [.tup b] st=.ok (.bl false) st:=by simp [F_is_whole,callF,m_is_whole,isI,tyN]
def noTup (st:Q0) (V:PV):Prop:=frzd st V=false/\isI "tuple" (dpv st V)=false
theorem rising_of {n:Int} {zs:List (PV × Bool)} (hl:zs.length<=1000) (st:Q0) (h:∀ z ∈ zs,F_is_between [z.1,.int 0,.int (n - 1)] st=.ok (.bl z.2) st):((zs.map Prod.snd).all id=false->Qf [.int n,.tup (zs.map Prod.fst)] st=.ok (.bl false) st)/\((zs.map Prod.snd).all id=true->∀ w,F_is_rising [.tup (zs.map Prod.fst)] st=.ok (.bl w) st->Qf [.int n,.tup (zs.map Prod.fst)] st=.ok (.bl w) st):=by
  have hc:compG (gaName 0) mTrue e_are_rising_houses_1 [] (capG [none,some 0] [some (.int n),some (.tup (zs.map Prod.fst))]) (zs.map Prod.fst) st=.ok ((zs.map Prod.snd).map .bl) st:=by
    rw [List.map_map]
    refine compG_on _ _ (by simp) fun z hz=>⟨_,rfl,?_⟩
    have:=h z hz
    show _=Res.ok (PV.bl z.2) st
    generalize zs.map Prod.fst=zv at *
    simp [capG,e_are_rising_houses_1,this]
  have hl':(zs.map Prod.fst).length<=1000000:=by rw [List.length_map]; omega
  generalize zs.map Prod.fst=zv at *
  generalize zs.map Prod.snd=bs at *
  refine ⟨fun q=>?_,fun q w hw=>?_⟩
  · simp -implicitDefEqProofs [Qf,callF,m_are_rising_houses,isI,tyN,hl',lim_eq,hc,q]
  · simp -implicitDefEqProofs [Qf,callF,m_are_rising_houses,isI,tyN,hl',lim_eq,hc,q,hw]
theorem group_no {n:Int} {V:PV} {st:Q0} (h:Qf [.int n,V] st=.ok (.bl false) st):F_is_group [.int n,V] st=.ok (.bl false) st:=by
  simp -implicitDefEqProofs [F_is_group,callF,m_is_group,h]
theorem group_not {n:Int} {V:PV} {st:Q0} (h:noTup st V):F_is_group [.int n,V] st=.ok (.bl false) st:=by
  refine group_no ?_
  simp -implicitDefEqProofs [Qf,callF,m_are_rising_houses,h.1,h.2]
theorem group_nil {n:Int} (st:Q0):F_is_group [.int n,.tup []] st=.ok (.bl false) st:=by
  have h:Qf [.int n,.tup []] st=.ok (.bl true) st:=rising_houses (g:=[]) ⟨fun h hh=>(by cases hh),List.Pairwise.nil,by simp⟩ st
  simp -implicitDefEqProofs [F_is_group,callF,m_is_group,h]
theorem sets_of {n:Int} {zs:List (PV × Bool)} (h0:zs ≠ []) (hl:zs.length<=1000) (st:Q0) (h:∀ z ∈ zs,F_is_group [.int n,z.1] st=.ok (.bl z.2) st):((zs.map Prod.snd).all id=false->F_are_sets [.int n,.tup (zs.map Prod.fst)] st=.ok (.bl false) st)/\((zs.map Prod.snd).all id=true->∀ w,F_is_rising [.tup (zs.map Prod.fst)] st=.ok (.bl w) st->F_are_sets [.int n,.tup (zs.map Prod.fst)] st=.ok (.bl w) st):=by
  have hc:compG (gaName 0) mTrue e_are_sets_1 [] (capG [none,some 0] [some (.int n),some (.tup (zs.map Prod.fst))]) (zs.map Prod.fst) st=.ok ((zs.map Prod.snd).map .bl) st:=by
    rw [List.map_map]
    refine compG_on _ _ (by simp) fun z hz=>⟨_,rfl,?_⟩
    have:=h z hz
    show _=Res.ok (PV.bl z.2) st
    generalize zs.map Prod.fst=zv at *
    simp [capG,e_are_sets_1,this]
  have hl':(zs.map Prod.fst).length<=1000000:=by rw [List.length_map]; omega
  have hn:¬ (zs.map Prod.fst).length=0:=by rw [List.length_map]; have:=List.length_pos_iff.mpr h0; omega
  have hn':¬ (((zs.map Prod.fst).length:Int)=0):=by omega
  have hn2:¬ zs.map Prod.fst=[]:=fun z=>hn (by rw [z]; rfl)
  generalize zs.map Prod.fst=zv at *
  generalize zs.map Prod.snd=bs at *
  refine ⟨fun q=>?_,fun q w hw=>?_⟩
  · simp -implicitDefEqProofs [F_are_sets,callF,m_are_sets,isI,tyN,hn2,hn,hn',hl',lim_eq,hc,q]
  · simp -implicitDefEqProofs [F_are_sets,callF,m_are_sets,isI,tyN,hn2,hn,hn',hl',lim_eq,hc,q,hw]
theorem sets_nil {n:Int} {st:Q0}:F_are_sets [.int n,.tup []] st=.ok (.bl false) st:=by
  simp -implicitDefEqProofs [F_are_sets,callF,m_are_sets,isI,tyN]
theorem book_not {V:PV} {st:Q0} (h:noTup st V):F_is_book [V] st=.ok (.bl false) st:=by
  simp -implicitDefEqProofs [F_is_book,callF,m_is_book,F_is_sized_tuple,m_is_sized_tuple,h.1,h.2]
theorem book_len {xs:List PV} (hl:xs.length ≠ 2) (st:Q0):F_is_book [.tup xs] st=.ok (.bl false) st:=by
  have hs:F_is_sized_tuple [.tup xs,.int 2,.int 2] st=.ok (.bl false) st:=by
    by_cases q:2<=xs.length
    · have q1:(2:Int)<=(xs.length:Int):=by omega
      have q2:¬ (xs.length:Int)<=2:=by omega
      simp -implicitDefEqProofs [F_is_sized_tuple,callF,m_is_sized_tuple,isI,tyN,q1,q2]
    · have q1:¬ (2:Int)<=(xs.length:Int):=by omega
      simp -implicitDefEqProofs [F_is_sized_tuple,callF,m_is_sized_tuple,isI,tyN,q1]
  simp -implicitDefEqProofs [F_is_book,callF,m_is_book,hs]
theorem book_first {a b:PV} {st:Q0} (h:F_is_between [a,.int 1,.int 9] st=.ok (.bl false) st):F_is_book [.tup [a,b]] st=.ok (.bl false) st:=by
  simp -implicitDefEqProofs [F_is_book,callF,m_is_book,F_is_sized_tuple,m_is_sized_tuple,isI,tyN,atI,ixN,h]
theorem book_sets {n:Int} (h1:1<=n) (h9:n<=9) {b:PV} {st:Q0} (h:F_are_sets [.int n,b] st=.ok (.bl false) st):F_is_book [.tup [.int n,b]] st=.ok (.bl false) st:=by
  have hb:=btw_int n 1 9 st
  rw [show (decide ((1:Int)<=n) && decide (n<=9))=true by simp; omega] at hb
  simp -implicitDefEqProofs [F_is_book,callF,m_is_book,F_is_sized_tuple,m_is_sized_tuple,isI,tyN,atI,ixN,hb,h]
def bad15 (n:Int):List PV:=[.tup [],.tup [.int n],.tup [.int (-1)],.tup [.int 0,.int 0],.tup [.int 0,.int n],.tup [.bl true],.tup [.bl false,.int n],.lst [.int 0],.non,.int 0,.str "0",.tup [.str "0"],.tup [.int 1000000000000000000000000000000],.tup [.int 1,.int 0],.tup [.tup [.int 0]]]
theorem bad_one {n:Int} {a:PV} {st:Q0} (h:F_is_between [a,.int 0,.int (n - 1)] st=.ok (.bl false) st):F_is_group [.int n,.tup [a]] st=.ok (.bl false) st:=
  group_no ((rising_of (n:=n) (zs:=[(a,false)]) (by simp) st (fun z hz=>by rw [List.mem_singleton.mp hz]; exact h)).1 rfl)
theorem bad_two {n:Int} {a b:PV} {u v:Bool} {st:Q0} (ha:F_is_between [a,.int 0,.int (n - 1)] st=.ok (.bl u) st) (hb:F_is_between [b,.int 0,.int (n - 1)] st=.ok (.bl v) st) (huv:(u && v)=false):F_is_group [.int n,.tup [a,b]] st=.ok (.bl false) st:=
  group_no ((rising_of (n:=n) (zs:=[(a,u),(b,v)]) (by simp) st (fun z hz=>by
    rcases List.mem_cons.mp hz with rfl | hz
    · exact ha
    · rw [List.mem_singleton.mp hz]; exact hb)).1 (by simpa using huv))
theorem bad_ints {n x y:Int} (hxy:y<=x) (st:Q0):F_is_group [.int n,.tup [.int x,.int y]] st=.ok (.bl false) st:=by
  cases q:(decide ((0:Int)<=x) && decide (x<=n - 1)) && (decide ((0:Int)<=y) && decide (y<=n - 1)) with
  | false=>exact bad_two (btw_int x 0 (n - 1) st) (btw_int y 0 (n - 1) st) q
  | true=>
    refine group_no ((rising_of (n:=n) (zs:=[(.int x,decide ((0:Int)<=x) && decide (x<=n - 1)),(.int y,decide ((0:Int)<=y) && decide (y<=n - 1))]) (by simp) st (fun z hz=>by
      rcases List.mem_cons.mp hz with rfl | hz
      · exact btw_int x 0 (n - 1) st
      · rw [List.mem_singleton.mp hz]; exact btw_int y 0 (n - 1) st)).2 (by simpa using q) false ?_)
    have:=riseG PV.int (fun a b=>decide (a < b)) (fun a b st=>rfl) [x,y] (by simp) st
    have e:chainB (fun a b:Int=>decide (a < b)) [x,y]=false:=by simp [chainB]; omega
    rw [e] at this
    exact this
theorem bad_group {n:Int} (h1:1<=n) (h9:n<=9) {V:PV} (h:V ∈ bad15 n) (st:Q0):F_is_group [.int n,V] st=.ok (.bl false) st:=by
  unfold bad15 at h
  simp only [List.mem_cons,List.not_mem_nil,or_false] at h
  rcases h with rfl | rfl | rfl | rfl | rfl | rfl | rfl | rfl | rfl | rfl | rfl | rfl | rfl | rfl | rfl
  · exact group_nil st
  · refine bad_one ?_
    rw [btw_int]; congr 2; simp; omega
  · refine bad_one ?_
    rw [btw_int]; congr 2
  · exact bad_ints (Int.le_refl _) st
  · refine bad_two (btw_int 0 0 (n - 1) st) (btw_int n 0 (n - 1) st) ?_
    simp; omega
  · exact bad_one (btw_no (whole_bl _ st))
  · exact bad_two (btw_no (whole_bl _ st)) (btw_int n 0 (n - 1) st) rfl
  · exact group_not ⟨rfl,rfl⟩
  · exact group_not ⟨rfl,rfl⟩
  · exact group_not ⟨rfl,rfl⟩
  · exact group_not ⟨rfl,rfl⟩
  · exact bad_one (btw_no (whole_str _ st))
  · refine bad_one ?_
    rw [btw_int]; congr 2; simp; omega
  · exact bad_ints (by decide) st
  · exact bad_one (btw_no (whole_tup _ st))
theorem chain_split {α:Type} {lt:α->α->Bool}:∀ (l:List α) (x y:α) (m:List α),lt x y=false->chainB lt (l ++ x :: y :: m)=false
  | [],x,y,m,h=>by
    show (lt x y && chainB lt (y :: m))=false
    rw [h]; rfl
  | [z],x,y,m,h=>by
    show (lt z x && chainB lt (x :: y :: m))=false
    have:=chain_split [] x y m h
    rw [List.nil_append] at this
    rw [this]; simp
  | z :: z' :: l,x,y,m,h=>by
    show (lt z z' && chainB lt (z' :: (l ++ x :: y :: m)))=false
    have:=chain_split (z' :: l) x y m h
    rw [List.cons_append] at this
    rw [this]; simp
theorem unrising {n:Int} {xs:List (List Int)} (h1:1<=n) (h9:n<=9) (hl:xs.length<=200) (h0:xs ≠ []) (ok:∀ g ∈ xs,GOk n g/\g ≠ []) (hc:chainB lexL xs=false) (st:Q0):F_is_book [.tup [.int n,.tup (xs.map Q3)]] st=.ok (.bl false) st:=by
  refine book_sets h1 h9 ?_
  have e1:(xs.map fun g=>(Q3 g,true)).map Prod.fst=xs.map Q3:=by rw [List.map_map]; rfl
  have e2:((xs.map fun g=>(Q3 g,true)).map Prod.snd).all id=true:=by rw [List.map_map,List.all_map]; simp
  have:=(sets_of (n:=n) (zs:=xs.map fun g=>(Q3 g,true)) (by simpa using h0) (by rw [List.length_map]; omega) st (fun z hz=>by
    obtain ⟨g,hg,rfl⟩:=List.mem_map.mp hz
    exact group_ok (ok g hg).1 (ok g hg).2 st)).2 e2 false
  rw [e1] at this
  refine this ?_
  rw [riseG Q3 lexL lt_tup xs (by omega) st,hc]
theorem badin {n:Int} {gs:List (List Int)} (B:BOk n gs) {V:PV} (h:V ∈ bad15 n) (l m:List (List Int)) (e:gs=l ++ m) (st:Q0):F_is_book [.tup [.int n,.tup (l.map Q3 ++ [V] ++ m.map Q3)]] st=.ok (.bl false) st:=by
  refine book_sets B.n1 B.n9 ?_
  have hlen:gs.length=l.length + m.length:=by rw [e,List.length_append]
  have:=(sets_of (n:=n) (zs:=(l.map fun g=>(Q3 g,true)) ++ [(V,false)] ++ m.map fun g=>(Q3 g,true)) (by simp) (by simp; have:=B.len; omega) st (fun z hz=>by
    rcases List.mem_append.mp hz with hz | hz
    · rcases List.mem_append.mp hz with hz | hz
      · obtain ⟨g,hg,rfl⟩:=List.mem_map.mp hz
        have:=B.ok g (by rw [e]; exact List.mem_append_left _ hg)
        exact group_ok this.1 this.2 st
      · rw [List.mem_singleton.mp hz]; exact bad_group B.n1 B.n9 h st
    · obtain ⟨g,hg,rfl⟩:=List.mem_map.mp hz
      have:=B.ok g (by rw [e]; exact List.mem_append_right _ hg)
      exact group_ok this.1 this.2 st)).1 (by simp)
  have e1:((l.map fun g=>(Q3 g,true)) ++ [(V,false)] ++ m.map fun g=>(Q3 g,true)).map Prod.fst=l.map Q3 ++ [V] ++ m.map Q3:=by
    rw [List.map_append,List.map_append,List.map_map,List.map_map]; rfl
  rw [e1] at this
  exact this
theorem finX_none (S:Q0) (c:Str):finX S ⟨c,none⟩ S=.exc ⟨c,none⟩ S:=by
  unfold finX
  rw [if_pos (List.prefix_refl S)]
theorem need_no {V:PV} {st:Q0} (h:F_is_book [V] st=.ok (.bl false) st):F_need_book [V] st=.exc ⟨"NoBook",none⟩ st:=by
  have step:m_need_book [some V] st=.exc ⟨"NoBook",none⟩ st:=by simp -implicitDefEqProofs [m_need_book,h]
  show callF m_need_book 1 _ st=_
  unfold callF
  rw [show (([V]:List PV).map some ++ List.replicate (1 - [V].length) none)=[some V] from rfl,step]
  exact finX_none st _
theorem gone_nobook {V W:PV} {st:Q0} (h:F_is_book [V] st=.ok (.bl false) st):F_need_gone [V,W] st=.exc ⟨"NoBook",none⟩ st:=by
  have h:=need_no h
  have step:m_need_gone [some V,some W] st=.exc ⟨"NoBook",none⟩ st:=by simp -implicitDefEqProofs [m_need_gone,h]
  show callF m_need_gone 2 _ st=_
  unfold callF
  rw [show (([V,W]:List PV).map some ++ List.replicate (2 - [V,W].length) none)=[some V,some W] from rfl,step]
  exact finX_none st _
theorem pool_nobook {V W:PV} {st:Q0} (h:F_is_book [V] st=.ok (.bl false) st):F_need_pool_of_book [V,W] st=.exc ⟨"NoBook",none⟩ st:=by
  have h:=need_no h
  have step:m_need_pool_of_book [some V,some W] st=.exc ⟨"NoBook",none⟩ st:=by simp -implicitDefEqProofs [m_need_pool_of_book,h]
  show callF m_need_pool_of_book 2 _ st=_
  unfold callF
  rw [show (([V,W]:List PV).map some ++ List.replicate (2 - [V,W].length) none)=[some V,some W] from rfl,step]
  exact finX_none st _
theorem gone_nohouse {n:Int} {gs:List (List Int)} (B:BOk n gs) {W:PV} {st:Q0} (h:Qf [.int n,W] st=.ok (.bl false) st):F_need_gone [Q8 n gs,W] st=.exc ⟨"NoHouse",none⟩ st:=by
  have h0:=need_book_ok B st
  have hix:oIx st (Q8 n gs) (.int 0)=.ok (.int n) st:=by simp [Q8,atI,ixN]
  have step:m_need_gone [some (Q8 n gs),some W] st=.exc ⟨"NoHouse",none⟩ st:=by
    generalize Q8 n gs=bv at *
    simp -implicitDefEqProofs [m_need_gone,h0,hix,h]
  show callF m_need_gone 2 _ st=_
  unfold callF
  rw [show (([Q8 n gs,W]:List PV).map some ++ List.replicate (2 - [Q8 n gs,W].length) none)=[some (Q8 n gs),some W] from rfl,step]
  exact finX_none st _
theorem pool_nohouse {n:Int} {gs:List (List Int)} (B:BOk n gs) {W:PV} {st:Q0} (h:F_is_group [.int n,W] st=.ok (.bl false) st):F_need_pool_of_book [Q8 n gs,W] st=.exc ⟨"NoHouse",none⟩ st:=by
  have h0:=need_book_ok B st
  have hix:oIx st (Q8 n gs) (.int 0)=.ok (.int n) st:=by simp [Q8,atI,ixN]
  have step:m_need_pool_of_book [some (Q8 n gs),some W] st=.exc ⟨"NoHouse",none⟩ st:=by
    generalize Q8 n gs=bv at *
    simp -implicitDefEqProofs [m_need_pool_of_book,h0,hix,h]
  show callF m_need_pool_of_book 2 _ st=_
  unfold callF
  rw [show (([Q8 n gs,W]:List PV).map some ++ List.replicate (2 - [Q8 n gs,W].length) none)=[some (Q8 n gs),some W] from rfl,step]
  exact finX_none st _
theorem door_exc {w:Nat} (hw:w < 6) {V W:PV} {st:Q0} {c:Str} (h0:w ≠ 1->w < 4->F_need_gone [V,W] st=.exc ⟨c,none⟩ st) (h1:w=1->F_need_pool_of_book [V,W] st=.exc ⟨c,none⟩ st) (h2:4<=w->F_need_book [V] st=.exc ⟨c,none⟩ st):F__law_e_door [.int w,V,W] st=.exc ⟨c,none⟩ st:=by
  have h6:w=0\/w=1\/w=2\/w=3\/w=4\/w=5:=by omega
  have fin:∀ {m:MS} {k:Nat} {ps:List PV},m (ps.map some ++ List.replicate (k - ps.length) none) st=.exc ⟨c,none⟩ st->callF m k ps st=.exc ⟨c,none⟩ st:=fun {m k ps} h=>by
    unfold callF
    rw [h]
    exact finX_none st _
  refine fin (m:=m__law_e_door) (k:=3) (ps:=[.int w,V,W]) ?_
  rw [show (([.int w,V,W]:List PV).map some ++ List.replicate (3 - [PV.int w,V,W].length) none)=[some (.int w),some V,some W] from rfl]
  rcases h6 with rfl | rfl | rfl | rfl | rfl | rfl
  · have e:=h0 (by decide) (by decide)
    have f:F_free_set [V,W] st=.exc ⟨c,none⟩ st:=fin (m:=m_free_set) (k:=2) (ps:=[V,W]) (by
      show m_free_set [some V,some W] st=_
      simp -implicitDefEqProofs [m_free_set,e])
    simp -implicitDefEqProofs [m__law_e_door,f]
  · have e:=h1 rfl
    have f:F_unmet_set [V,W] st=.exc ⟨c,none⟩ st:=fin (m:=m_unmet_set) (k:=2) (ps:=[V,W]) (by
      show m_unmet_set [some V,some W] st=_
      simp -implicitDefEqProofs [m_unmet_set,e])
    simp -implicitDefEqProofs [m__law_e_door,f]
  · have e:=h0 (by decide) (by decide)
    have f:F_is_stuck [V,W] st=.exc ⟨c,none⟩ st:=fin (m:=m_is_stuck) (k:=2) (ps:=[V,W]) (by
      show m_is_stuck [some V,some W] st=_
      simp -implicitDefEqProofs [m_is_stuck,e])
    simp -implicitDefEqProofs [m__law_e_door,f]
  · have e:=h0 (by decide) (by decide)
    have f:F_is_blind [V,W,.tup [.int 0]] st=.exc ⟨c,none⟩ st:=fin (m:=m_is_blind) (k:=3) (ps:=[V,W,.tup [.int 0]]) (by
      show m_is_blind [some V,some W,some (.tup [.int 0])] st=_
      simp -implicitDefEqProofs [m_is_blind,e])
    simp -implicitDefEqProofs [m__law_e_door,f,lim_eq]
  · have e:=h2 (by decide)
    have f:F_bears [V,.int 0] st=.exc ⟨c,none⟩ st:=fin (m:=m_bears) (k:=2) (ps:=[V,.int 0]) (by
      show m_bears [some V,some (.int 0)] st=_
      simp -implicitDefEqProofs [m_bears,e])
    simp -implicitDefEqProofs [m__law_e_door,f]
  · have e:=h2 (by decide)
    have f:F_most_borne [V] st=.exc ⟨c,none⟩ st:=fin (m:=m_most_borne) (k:=2) (ps:=[V]) (by
      show m_most_borne [some V,none] st=_
      simp -implicitDefEqProofs [m_most_borne,e])
    simp -implicitDefEqProofs [m__law_e_door,f]
theorem word_book {w:Nat} (hw:w < 6) {V W:PV} {st:Q0} (h:F_is_book [V] st=.ok (.bl false) st):F__law_e_word [.int w,V,W] st=.ok (.str "book") st:=by
  unfold F__law_e_word
  rw [door_exc hw (c := "NoBook") (fun _ _=>gone_nobook h) (fun _=>pool_nobook h) (fun _=>need_no h)]
  simp
theorem word_house {w:Nat} (hw:w < 4) {n:Int} {gs:List (List Int)} (B:BOk n gs) {W:PV} {st:Q0} (h1:w ≠ 1->Qf [.int n,W] st=.ok (.bl false) st) (h2:w=1->F_is_group [.int n,W] st=.ok (.bl false) st):F__law_e_word [.int w,Q8 n gs,W] st=.ok (.str "house") st:=by
  unfold F__law_e_word
  rw [door_exc (by omega) (c := "NoHouse") (fun a _=>gone_nohouse B (h1 a)) (fun a=>pool_nohouse B (h2 a)) (fun a=>absurd hw (by omega))]
  have q:¬ (("NoHouse" : Str) = "NoBook"):=by decide
  simp [q]
theorem in_sets (o:List Int) (gs:List (List Int)) (st:Q0):oIn false st (Q3 o) (setsV gs)=.ok (.bl (decide (o ∈ gs))) st:=by
  have h1:(gs.map Q3).all (good dep)=true:=by
    rw [List.all_map,List.all_eq_true]
    intro g _
    simp [good,Q3,dep]
  have h2:((gs.map Q3).any fun y=>peq y (Q3 o))=decide (o ∈ gs):=by
    rw [List.any_map]
    by_cases h:o ∈ gs
    · rw [decide_eq_true h,List.any_eq_true]
      exact ⟨o,h,by simp [peq_tup]⟩
    · rw [decide_eq_false h,List.any_eq_false]
      intro y hy z
      have:y=o:=by simpa [peq_tup] using z
      exact h (by rw [<- this]; exact hy)
  unfold oIn setsV
  simp only [seqOf_tup]
  have hd:der st (Q3 o)=Q3 o:=rfl
  have hg:good dep (Q3 o)=true:=by simp [good,Q3,dep]
  rw [hd,if_pos ⟨hg,h1⟩,h2]; simp
theorem need_gone_ok {n:Int} {gs:List (List Int)} (B:BOk n gs) {a:List Int} (ha:GOk n a) (st:Q0):F_need_gone [Q8 n gs,Q3 a] st=.ok .non st:=by
  have h0:=need_book_ok B st
  have h1:=rising_houses ha st
  have hix:oIx st (Q8 n gs) (.int 0)=.ok (.int n) st:=by simp [Q8,atI,ixN]
  generalize Q8 n gs=bv at *
  generalize Q3 a=av at *
  simp -implicitDefEqProofs [F_need_gone,callF,m_need_gone,h0,hix,h1]
theorem stuck_ok {n:Int} {gs:List (List Int)} (B:BOk n gs) {a:List Int} (ha:GOk n a) (st:Q0):F_is_stuck [Q8 n gs,Q3 a] st=.ok (.bl (firstG gs a).isNone) st:=by
  have h0:=need_gone_ok B ha st
  have h1:=without_ok (n:=n) (gs:=gs) (by have:=B.len; omega) (a:=a) ha.len st
  have i1:=opt_non (firstG gs a)
  generalize Q8 n gs=bv at *
  generalize Q3 a=av at *
  generalize optV (firstG gs a)=ov at *
  simp -implicitDefEqProofs [F_is_stuck,callF,m_is_stuck,h0,h1,i1]
theorem in_comp {me:ME} (Γ:Gam) {a:List Int} (hme:∀ x st,me [some (.int x),some (Q3 a)] st=.ok (.bl (decide (x ∈ a))) st) (o:List Int) (st:Q0):compG (gaName 0) mTrue me [] [none,some (Q3 a)] (o.map PV.int) st=.ok ((o.map fun x=>decide (x ∈ a)).map .bl) st:=by
  rw [List.map_map]
  exact compG_on PV.int (fun x=>PV.bl (decide (x ∈ a))) (by simp) fun x hx=>⟨_,rfl,hme x st⟩
theorem blind_ok {n:Int} {gs:List (List Int)} (B:BOk n gs) {a o:List Int} (ha:GOk n a) (ho:o.length<=30) (st:Q0):F_is_blind [Q8 n gs,Q3 a,Q3 o] st=.ok (.bl (decide (o ∈ gs) && inG a o)) st:=by
  have h0:=need_gone_ok B ha st
  have hix:oIx st (Q8 n gs) (.int 1)=.ok (setsV gs) st:=by simp [Q8,atI,ixN]
  have h1:=in_sets o gs st
  have hc:compG (gaName 0) mTrue e_is_blind_1 [] (capG [none,some 1] [some (Q8 n gs),some (Q3 a),some (Q3 o)]) (o.map PV.int) st=.ok ((o.map fun x=>decide (x ∈ a)).map .bl) st:=by
    refine in_comp [] (fun x st=>?_) o st
    have:=in_grp x a st false
    rw [show (decide (x ∈ a) != false)=decide (x ∈ a) by simp] at this
    generalize Q3 a=av at *
    simp [e_is_blind_1,this]
  have hal:(o.map fun x=>decide (x ∈ a)).all id=inG a o:=by unfold inG; rw [List.all_map]; rfl
  have hgl:(o.map PV.int).length<=1000000:=by rw [List.length_map]; omega
  rw [<- hal]
  unfold Q3 at h0 h1 hc ⊢
  generalize (o.map fun x=>decide (x ∈ a))=bs at *
  generalize o.map PV.int=ov at *
  generalize Q8 n gs=bv at *
  generalize a.map PV.int=av at *
  generalize setsV gs=sv at *
  cases z:decide (o ∈ gs) with
  | false=>
    rw [z] at h1
    simp -implicitDefEqProofs [F_is_blind,callF,m_is_blind,h0,hix,h1]
  | true=>
    rw [z] at h1
    simp -implicitDefEqProofs [F_is_blind,callF,m_is_blind,h0,hix,h1,hgl,lim_eq,hc]
theorem hit_ok {a b:List Int} (ha:a.length<=30) (st:Q0):F__law_e_hit [Q3 a,Q3 b] st=.ok (.bl (meetB a b)) st:=by
  have key:=forG_find (g:=PV.int) (J:=fun Γ=>∃ b2,Γ=[some (Q3 a),some (Q3 b),b2]) (Pd:=fun x=>decide (x ∈ b)) (v:=fun _=>.bl true) (ga:=gaName 2) (body:=b__law_e_hit_1) (w:=[]) (st:=st) (by simp) (xs:=a) (fun x _ Γ ⟨b2,e⟩=>by
    subst e
    have h:=in_grp x b st false
    rw [show (decide (x ∈ b) != false)=decide (x ∈ b) by simp] at h
    refine ⟨_,rfl,fun z=>⟨[some (Q3 a),some (Q3 b),some (.int x)],⟨_,rfl⟩,?_⟩,fun z=>?_⟩ <;>
    · rw [z] at h
      show b__law_e_hit_1 [some (Q3 a),some (Q3 b),some (.int x)] st=_
      generalize Q3 a=av at *
      generalize Q3 b=bv at *
      simp -implicitDefEqProofs [b__law_e_hit_1,h]) [some (Q3 a),some (Q3 b),none] ⟨_,rfl⟩
  have hl:(a.map PV.int).length<=1000000:=by rw [List.length_map]; omega
  have step:m__law_e_hit [some (Q3 a),some (Q3 b),none] st=.rt (.bl (meetB a b)) st:=by
    unfold meetB
    cases z:a.find? (fun x=>decide (x ∈ b)) with
    | none=>
      obtain ⟨Γ',⟨b2,rfl⟩,e⟩:=key.1 z
      have:(a.any fun x=>decide (x ∈ b))=false:=by
        rw [List.any_eq_false]; exact fun x hx=>by simpa using List.find?_eq_none.mp z x hx
      rw [this]
      unfold Q3 at e ⊢
      generalize a.map PV.int=av at *
      generalize b.map PV.int=bv at *
      simp -implicitDefEqProofs [m__law_e_hit,hl,lim_eq,e]
    | some x=>
      have e:=key.2 x z
      have:(a.any fun x=>decide (x ∈ b))=true:=List.any_eq_true.mpr ⟨x,List.mem_of_find?_eq_some z,by simpa using List.find?_some z⟩
      rw [this]
      unfold Q3 at e ⊢
      generalize a.map PV.int=av at *
      generalize b.map PV.int=bv at *
      simp -implicitDefEqProofs [m__law_e_hit,hl,lim_eq,e]
  show callF m__law_e_hit 3 _ st=_
  unfold callF
  rw [show (([Q3 a,Q3 b]:List PV).map some ++ List.replicate (3 - [Q3 a,Q3 b].length) none)=[some (Q3 a),some (Q3 b),none] from rfl,step]
  simp [fin,fz]
theorem lwithin_ok {a b:List Int} (ha:a.length<=30) (st:Q0):F__law_e_within [Q3 a,Q3 b] st=.ok (.bl (inG b a)) st:=by
  have key:=forG_find (g:=PV.int) (J:=fun Γ=>∃ b2,Γ=[some (Q3 a),some (Q3 b),b2]) (Pd:=fun x=>!decide (x ∈ b)) (v:=fun _=>.bl false) (ga:=gaName 2) (body:=b__law_e_within_1) (w:=[]) (st:=st) (by simp) (xs:=a) (fun x _ Γ ⟨b2,e⟩=>by
    subst e
    have h:=in_grp x b st true
    rw [show (decide (x ∈ b) != true)=!decide (x ∈ b) by simp] at h
    refine ⟨_,rfl,fun z=>⟨[some (Q3 a),some (Q3 b),some (.int x)],⟨_,rfl⟩,?_⟩,fun z=>?_⟩ <;>
    · rw [z] at h
      show b__law_e_within_1 [some (Q3 a),some (Q3 b),some (.int x)] st=_
      generalize Q3 a=av at *
      generalize Q3 b=bv at *
      simp -implicitDefEqProofs [b__law_e_within_1,h]) [some (Q3 a),some (Q3 b),none] ⟨_,rfl⟩
  have hl:(a.map PV.int).length<=1000000:=by rw [List.length_map]; omega
  have step:m__law_e_within [some (Q3 a),some (Q3 b),none] st=.rt (.bl (inG b a)) st:=by
    unfold inG
    cases z:a.find? (fun x=>!decide (x ∈ b)) with
    | none=>
      obtain ⟨Γ',⟨b2,rfl⟩,e⟩:=key.1 z
      have:(a.all fun x=>decide (x ∈ b))=true:=by
        rw [List.all_eq_true]; exact fun x hx=>by simpa using List.find?_eq_none.mp z x hx
      rw [this]
      unfold Q3 at e ⊢
      generalize a.map PV.int=av at *
      generalize b.map PV.int=bv at *
      simp -implicitDefEqProofs [m__law_e_within,hl,lim_eq,e]
    | some x=>
      have e:=key.2 x z
      have:(a.all fun x=>decide (x ∈ b))=false:=by
        rw [List.all_eq_false]
        exact ⟨x,List.mem_of_find?_eq_some z,by simpa using List.find?_some z⟩
      rw [this]
      unfold Q3 at e ⊢
      generalize a.map PV.int=av at *
      generalize b.map PV.int=bv at *
      simp -implicitDefEqProofs [m__law_e_within,hl,lim_eq,e]
  show callF m__law_e_within 3 _ st=_
  unfold callF
  rw [show (([Q3 a,Q3 b]:List PV).map some ++ List.replicate (3 - [Q3 a,Q3 b].length) none)=[some (Q3 a),some (Q3 b),none] from rfl,step]
  simp [fin,fz]
theorem first_all (gs:List (List Int)) (a:List Int):(firstG gs a).isNone=gs.all fun g=>meetB g a:=by
  unfold firstG
  rw [Bool.eq_iff_iff,Option.isNone_iff_eq_none,List.find?_eq_none,List.all_eq_true]
  constructor
  · intro h g hg
    have:=h g hg
    rw [meetB_comm]; simpa using this
  · intro h g hg
    have:=h g hg
    rw [meetB_comm] at this
    simp [this]
theorem looks_ok {n:Int} {gs:List (List Int)} (B:BOk n gs) {a o:List Int} (ha:GOk n a) (ho:o.length<=30) (st:Q0):F__law_e_looks_right [Q8 n gs,Q3 a,Q3 o] st=.ok (.bl true) st:=by
  have hix:oIx st (Q8 n gs) (.int 1)=.ok (.tup (gs.map Q3)) st:=by simp [Q8,setsV,atI,ixN]
  have hc:compG (gaName 0) mTrue e__law_e_looks_right_1 [] (capG [none,some 1] [some (Q8 n gs),some (Q3 a),some (Q3 o),none,none,none]) (gs.map Q3) st=.ok ((gs.map fun g=>meetB g a).map .bl) st:=by
    rw [List.map_map]
    refine compG_on Q3 (fun g=>PV.bl (meetB g a)) (by simp) fun g hg=>⟨_,rfl,?_⟩
    have:=hit_ok (a:=g) (b:=a) (by have:=(B.ok g hg).1.len; omega) st
    generalize Q8 n gs=bv at *
    generalize Q3 g=gv at *
    generalize Q3 a=av at *
    simp [capG,e__law_e_looks_right_1,this]
  have hal:(gs.map fun g=>meetB g a).all id=(firstG gs a).isNone:=by rw [first_all,List.all_map]; rfl
  have hgl:(gs.map Q3).length<=1000000:=by rw [List.length_map]; have:=B.len; omega
  have h1:=in_sets o gs st
  have h2:=lwithin_ok (a:=o) (b:=a) ho st
  have h3:=stuck_ok B ha st
  have h4:=blind_ok B ha ho st
  unfold setsV at h1
  generalize (gs.map fun g=>meetB g a)=bs at *
  generalize gs.map Q3=gv at *
  generalize Q8 n gs=bv at *
  generalize Q3 a=av at *
  generalize Q3 o=ov at *
  generalize (firstG gs a).isNone=sb at *
  generalize inG a o=ib at *
  have step:m__law_e_looks_right [some bv,some av,some ov,none,none,none] st=.rt (.bl true) st:=by
    cases z:decide (o ∈ gs) with
    | false=>
      rw [z] at h1 h4
      rw [Bool.false_and] at h4
      cases sb <;> simp -implicitDefEqProofs [m__law_e_looks_right,hix,hgl,lim_eq,hc,hal,h1,h3,h4,isI,tyN]
    | true=>
      rw [z] at h1 h4
      rw [Bool.true_and] at h4
      cases sb <;> cases ib <;> simp -implicitDefEqProofs [m__law_e_looks_right,hix,hgl,lim_eq,hc,hal,h1,h2,h3,h4,isI,tyN]
  show callF m__law_e_looks_right 6 _ st=_
  unfold callF
  rw [show (([bv,av,ov]:List PV).map some ++ List.replicate (6 - [bv,av,ov].length) none)=[some bv,some av,some ov,none,none,none] from rfl,step]
  simp [fin,fz]
theorem rise_val {n:Int} {xs:List Int} (hl:xs.length<=100) (st:Q0):Qf [.int n,Q3 xs] st=.ok (.bl ((xs.all fun x=>decide ((0:Int)<=x) && decide (x<=n - 1)) && chainB (fun a b=>decide (a < b)) xs)) st:=by
  have hz:∀ z ∈ (xs.map fun x=>(PV.int x,decide ((0:Int)<=x) && decide (x<=n - 1))),F_is_between [z.1,.int 0,.int (n - 1)] st=.ok (.bl z.2) st:=fun z hz=>by
    obtain ⟨x,_,rfl⟩:=List.mem_map.mp hz
    exact btw_int x 0 (n - 1) st
  have key:=rising_of (n:=n) (zs:=xs.map fun x=>(PV.int x,decide ((0:Int)<=x) && decide (x<=n - 1))) (by rw [List.length_map]; omega) st hz
  have e1:(xs.map fun x=>(PV.int x,decide ((0:Int)<=x) && decide (x<=n - 1))).map Prod.fst=xs.map PV.int:=by rw [List.map_map]; rfl
  have e2:((xs.map fun x=>(PV.int x,decide ((0:Int)<=x) && decide (x<=n - 1))).map Prod.snd).all id=xs.all fun x=>decide ((0:Int)<=x) && decide (x<=n - 1):=by rw [List.map_map,List.all_map]; rfl
  rw [e1,e2] at key
  have hr:=riseG PV.int (fun a b=>decide (a < b)) (fun a b st=>rfl) xs (by omega) st
  cases z:(xs.all fun x=>decide ((0:Int)<=x) && decide (x<=n - 1)) with
  | false=>rw [Bool.false_and]; exact key.1 z
  | true=>rw [Bool.true_and]; exact key.2 z _ hr
theorem rise_no {n:Int} {xs:List Int} (hl:xs.length<=100) (h:((xs.all fun x=>decide ((0:Int)<=x) && decide (x<=n - 1)) && chainB (fun a b=>decide (a < b)) xs)=false) (st:Q0):Qf [.int n,Q3 xs] st=.ok (.bl false) st:=by
  rw [rise_val hl,h]
def badS (n:Int):List (List Int):=[[n],[-1],[0,0],[1,0],[0,n],[10 ^ 20],[-n]]
theorem badS_no {n:Int} (h1:1<=n) (h9:n<=9) {xs:List Int} (h:xs ∈ badS n) (st:Q0):Qf [.int n,Q3 xs] st=.ok (.bl false) st:=by
  refine rise_no ?_ ?_ st
  · unfold badS at h
    simp only [List.mem_cons,List.not_mem_nil,or_false] at h
    rcases h with rfl | rfl | rfl | rfl | rfl | rfl | rfl <;> simp
  · unfold badS at h
    simp only [List.mem_cons,List.not_mem_nil,or_false] at h
    rcases h with rfl | rfl | rfl | rfl | rfl | rfl | rfl
    · have:¬ n<=n - 1:=by omega
      simp [this]
    · simp
    · simp [chainB]
    · simp [chainB]
    · have:¬ n<=n - 1:=by omega
      simp [this]
    · have:¬ (100000000000000000000:Int)<=n - 1:=by omega
      simp [this]
    · have:¬ n<=0:=by omega
      simp [this]
def badB (n:Int) (gs:List (List Int)):List PV:=[.tup [.int n,.tup ((gs.reverse ++ gs.take 1).map Q3)],.tup [.int n,.tup []],.tup [.int n,.tup (gs.map Q3 ++ [.tup []])],.tup [.int 10,setsV gs],.tup [.int 0,setsV gs],.tup [.int n,.tup [.tup [.int n]]],.non,setsV gs,.tup []]
theorem badB_no {n:Int} {gs:List (List Int)} (B:BOk n gs) {V:PV} (h:V ∈ badB n gs) (st:Q0):F_is_book [V] st=.ok (.bl false) st:=by
  unfold badB at h
  simp only [List.mem_cons,List.not_mem_nil,or_false] at h
  rcases h with rfl | rfl | rfl | rfl | rfl | rfl | rfl | rfl | rfl
  · refine unrising B.n1 B.n9 (by simp; have:=B.len; omega) (by have:=B.ne; simp [this]) (fun g hg=>?_) ?_ st
    · rcases List.mem_append.mp hg with hg | hg
      · exact B.ok g (List.mem_reverse.mp hg)
      · exact B.ok g (List.mem_of_mem_take hg)
    · cases gs with
      | nil=>exact absurd rfl B.ne
      | cons g r=>
        rw [show ((g :: r).reverse ++ (g :: r).take 1)=r.reverse ++ g :: g :: [] by simp]
        exact chain_split _ _ _ _ (lexL_irr g)
  · exact book_sets B.n1 B.n9 sets_nil
  · have:=badin B (V:=.tup []) (by simp [bad15]) gs [] (by simp) st
    simpa using this
  · have:=btw_int 10 1 9 st
    exact book_first this
  · have:=btw_int 0 1 9 st
    exact book_first this
  · refine book_sets B.n1 B.n9 ?_
    refine (sets_of (zs:=[(.tup [.int n],false)]) (by simp) (by simp) st (fun z hz=>?_)).1 rfl
    rw [List.mem_singleton.mp hz]
    refine bad_one ?_
    have:=btw_int n 0 (n - 1) st
    rw [decide_eq_false (show ¬ n<=n - 1 by omega),Bool.and_false] at this
    exact this
  · exact book_not ⟨rfl,rfl⟩
  · unfold setsV
    by_cases hl:gs.length=2
    · match gs,hl with
      | [a,b],_=>exact book_first (btw_no (whole_tup _ st))
    · exact book_len (by rw [List.length_map]; exact hl) st
  · exact book_len (by simp) st
theorem word_fine {w n:Nat} (hw:w < 6) {gs:List (List Int)} (B:BOk n gs) {a:List Int} (ha:GOk n a) (hne:w=1->a ≠ []) (st:Q0):F__law_e_word [.int w,Q8 n gs,Q3 a] st=.ok (.str "") st:=by
  have h6:w=0\/w=1\/w=2\/w=3\/w=4\/w=5:=by omega
  have ok:∃ v,F__law_e_door [.int w,Q8 n gs,Q3 a] st=.ok v st:=by
    have go:∀ v m,m < 16->good m v=true->m__law_e_door [some (.int w),some (Q8 n gs),some (Q3 a)] st=.rt v st->F__law_e_door [.int w,Q8 n gs,Q3 a] st=.ok v st:=fun v m hm hv h=>by
      show callF m__law_e_door 3 _ st=_
      unfold callF
      rw [show (([.int w,Q8 n gs,Q3 a]:List PV).map some ++ List.replicate (3 - [PV.int w,Q8 n gs,Q3 a].length) none)=[some (.int w),some (Q8 n gs),some (Q3 a)] from rfl,h]
      show fin st v st=_
      unfold fin
      rw [if_pos (List.prefix_refl st),fz_good hv hm]; rfl
    have gopt:∀ o:Option (List Int),good 1 (optV o)=true:=fun o=>by cases o <;> simp [optV,good,Q3]
    rcases h6 with rfl | rfl | rfl | rfl | rfl | rfl
    · refine ⟨_,go (optV (firstG gs a)) 1 (by decide) (gopt _) ?_⟩
      have e:=free_ok B ha st
      generalize Q8 n gs=bv at *
      generalize Q3 a=av at *
      generalize optV (firstG gs a)=ov at *
      simp -implicitDefEqProofs [m__law_e_door,e]
    · refine ⟨_,go (optV (firstG gs a)) 1 (by decide) (gopt _) ?_⟩
      have e:=unmet_ok B ha (hne rfl) st
      generalize Q8 n gs=bv at *
      generalize Q3 a=av at *
      generalize optV (firstG gs a)=ov at *
      simp -implicitDefEqProofs [m__law_e_door,e]
    · refine ⟨_,go (.bl (firstG gs a).isNone) 0 (by decide) rfl ?_⟩
      have e:=stuck_ok B ha st
      generalize Q8 n gs=bv at *
      generalize Q3 a=av at *
      generalize (firstG gs a).isNone=ov at *
      simp -implicitDefEqProofs [m__law_e_door,e]
    · refine ⟨_,go (.bl (decide ([0] ∈ gs) && inG a [0])) 0 (by decide) rfl ?_⟩
      have e:F_is_blind [Q8 n gs,Q3 a,.tup [.int 0]] st=_:=blind_ok B (o:=[0]) ha (by simp) st
      generalize Q8 n gs=bv at *
      generalize Q3 a=av at *
      generalize (decide ([0] ∈ gs) && inG a [0])=ov at *
      simp -implicitDefEqProofs [m__law_e_door,e,lim_eq]
    · refine ⟨_,go (paperV n gs 0) 2 (by decide) ?_ ?_⟩
      · unfold paperV
        split
        · simp [good]
        · unfold papV
          split
          · simp [good,Q3]
          · cases withinG gs _ <;> simp [good,Q3,optV]
      · have e:=bears_ok (f:=0) (by decide) B st
        rw [show ((0:Nat):Int)=0 from rfl] at e
        generalize Q8 n gs=bv at *
        generalize Q3 a=av at *
        generalize paperV n gs 0=ov at *
        simp -implicitDefEqProofs [m__law_e_door,e]
    · obtain ⟨m,_,_,_,e⟩:=most_ok B st
      refine ⟨_,go (.tup [.int m,paperV n gs (m + 1)]) 3 (by decide) ?_ ?_⟩
      · have:good 2 (paperV n gs (m + 1))=true:=by
          unfold paperV
          split
          · simp [good]
          · unfold papV
            split
            · simp [good,Q3]
            · cases withinG gs _ <;> simp [good,Q3,optV]
        simp [good,this]
      · generalize Q8 n gs=bv at *
        generalize Q3 a=av at *
        generalize paperV n gs (m + 1)=ov at *
        simp -implicitDefEqProofs [m__law_e_door,e]
  obtain ⟨v,e⟩:=ok
  unfold F__law_e_word
  rw [e]
theorem sl_tup (st:Q0) (xs:List PV) (l h:Option Int):oSl st (.tup xs) l h=.ok (.tup (cut xs l h)) st:=rfl
abbrev rfΓ (b o n s L M:PV) (a6 a7:Option PV):Gam:=[some b,some o,some n,some s,some L,some M,a6,a7]
theorem rf2 {n w:Nat} (hw:w < 6) {gs:List (List Int)} (B:BOk n gs) {V:PV} (h:V ∈ badB n gs) (b o s L M:PV) (st:Q0):b__law_e_refusals_right_2 (rfΓ b o (.int n) s L M (some (.int w)) (some V)) st=.nx (rfΓ b o (.int n) s L M (some (.int w)) (some V)) st:=by
  have h1:=word_book hw (W:=o) (badB_no B h st)
  have h2:=word_book hw (W:=.tup [.int n]) (badB_no B h st)
  unfold rfΓ
  simp -implicitDefEqProofs [b__law_e_refusals_right_2,h1,h2,lim_eq]
theorem rf3 {n w:Nat} (hw:w < 4) {gs:List (List Int)} (B:BOk n gs) {xs:List Int} (h:xs ∈ badS n) (o m s L M:PV) (st:Q0):b__law_e_refusals_right_3 (rfΓ (Q8 n gs) o m s L M (some (.int w)) (some (Q3 xs))) st=.nx (rfΓ (Q8 n gs) o m s L M (some (.int w)) (some (Q3 xs))) st:=by
  have h0:=badS_no B.n1 B.n9 h st
  have h1:=word_house hw B (fun _=>h0) (fun _=>group_no h0)
  unfold rfΓ
  generalize Q8 n gs=bv at *
  generalize Q3 xs=xv at *
  simp -implicitDefEqProofs [b__law_e_refusals_right_3,h1]
theorem rf1 {n w:Nat} (hw:w < 6) {gs:List (List Int)} (B:BOk n gs) {a:List Int} (ha:GOk n a) (hne:a ≠ []) (s:PV) (st:Q0) (a7:Option PV):∃ c7,b__law_e_refusals_right_1 (rfΓ (Q8 n gs) (Q3 a) (.int n) s (.lst (badB n gs)) (.lst ((badS n).map Q3)) (some (.int w)) a7) st=.nx (rfΓ (Q8 n gs) (Q3 a) (.int n) s (.lst (badB n gs)) (.lst ((badS n).map Q3)) (some (.int w)) c7) st:=by
  obtain ⟨Γ',S',e2,c7,rfl,hS'⟩:=forG_inv (g:=fun x:PV=>x) (xs:=badB n gs) (ga:=gaName 7) (body:=b__law_e_refusals_right_2) (w:=[]) (Γ:=rfΓ (Q8 n gs) (Q3 a) (.int n) s (.lst (badB n gs)) (.lst ((badS n).map Q3)) (some (.int w)) a7) (st:=st)
    (fun _ Γ st'=>∃ c7,Γ=rfΓ (Q8 n gs) (Q3 a) (.int n) s (.lst (badB n gs)) (.lst ((badS n).map Q3)) (some (.int w)) c7/\st'=st)
    (fun _ _ _ _=>by simp)
    (fun i x Γ st' hxi ⟨c7,g1,g2⟩=>by
      subst g1
      exact ⟨_,rfl,_,_,rf2 hw B (List.mem_of_getElem? hxi) _ _ _ _ _ st',_,rfl,g2⟩)
    ⟨_,rfl,rfl⟩
  rw [List.map_id',hS'] at e2
  clear hS'
  have l2:(badB n gs).length=9:=rfl
  have l3:((badS n).map Q3).length=7:=rfl
  have wf:=word_fine hw B ha (fun _=>hne) st
  by_cases q:w < 4
  · obtain ⟨Γ',S2,e3,d7,rfl,hS2⟩:=forG_inv (g:=Q3) (xs:=badS n) (ga:=gaName 7) (body:=b__law_e_refusals_right_3) (w:=[]) (Γ:=rfΓ (Q8 n gs) (Q3 a) (.int n) s (.lst (badB n gs)) (.lst ((badS n).map Q3)) (some (.int w)) c7) (st:=st)
      (fun _ Γ st2=>∃ c7,Γ=rfΓ (Q8 n gs) (Q3 a) (.int n) s (.lst (badB n gs)) (.lst ((badS n).map Q3)) (some (.int w)) c7/\st2=st)
      (fun _ _ _ _=>by simp)
      (fun i x Γ st2 hxi ⟨c7,g1,g2⟩=>by
        subst g1
        exact ⟨_,rfl,_,_,rf3 q B (List.mem_of_getElem? hxi) _ _ _ _ _ st2,_,rfl,g2⟩)
      ⟨_,rfl,rfl⟩
    rw [hS2] at e3
    clear hS2
    refine ⟨d7,?_⟩
    have q':(w:Int) < 4:=by omega
    unfold rfΓ at *
    generalize badB n gs=L at *
    generalize (badS n).map Q3=M at *
    generalize Q8 n gs=bv at *
    generalize Q3 a=av at *
    simp -implicitDefEqProofs [b__law_e_refusals_right_1,e2,e3,q',lim_eq,l2,l3,wf]
  · refine ⟨c7,?_⟩
    have q':¬ (w:Int) < 4:=by omega
    unfold rfΓ at *
    generalize badB n gs=L at *
    generalize (badS n).map Q3=M at *
    generalize Q8 n gs=bv at *
    generalize Q3 a=av at *
    simp -implicitDefEqProofs [b__law_e_refusals_right_1,e2,q',lim_eq,l2,wf]
theorem refusals_ok {n:Nat} {gs:List (List Int)} (B:BOk n gs) {a:List Int} (ha:GOk n a) (hne:a ≠ []) (st:Q0):F__law_e_refusals_right [Q8 n gs,Q3 a] st=.ok (.bl true) st:=by
  have hlen:=B.len
  obtain ⟨Γ',S',e1,c6,c7,rfl,hS'⟩:=forG_inv (g:=fun k:Nat=>PV.int (k:Int)) (xs:=List.range 6) (ga:=gaName 6) (body:=b__law_e_refusals_right_1) (w:=[]) (Γ:=rfΓ (Q8 n gs) (Q3 a) (.int n) (setsV gs) (.lst (badB n gs)) (.lst ((badS n).map Q3)) none none) (st:=st)
    (fun _ Γ st'=>∃ c6 c7,Γ=rfΓ (Q8 n gs) (Q3 a) (.int n) (setsV gs) (.lst (badB n gs)) (.lst ((badS n).map Q3)) c6 c7/\st'=st)
    (fun _ _ _ _=>by simp)
    (fun i x Γ st' hxi ⟨c6,c7,g1,g2⟩=>by
      subst g1
      obtain ⟨d7,e⟩:=rf1 (w:=x) (by have:=List.mem_of_getElem? hxi; simpa using this) B ha hne (setsV gs) st' c7
      exact ⟨_,rfl,_,_,e,_,_,rfl,g2⟩)
    ⟨_,_,rfl,rfl⟩
  rw [<- rangeI0,hS'] at e1
  clear hS'
  have w1:F__law_e_word [.int 1,Q8 n gs,.tup []] st=.ok (.str "house") st:=word_house (w:=1) (by decide) B (fun z=>absurd rfl z) (fun _=>group_nil st)
  have w0:F__law_e_word [.int 0,Q8 n gs,.tup []] st=.ok (.str "") st:=word_fine (w:=0) (a:=[]) (by decide) B ⟨fun _ h=>absurd h (by simp),by simp,by simp⟩ (by simp) st
  have hrv:∀ Γ:Gam,mRevT (Q5 3) (mNeg (mC (.int 1))) (some (Q8 n gs) :: some (Q3 a) :: some (.int n) :: some (.tup (gs.map Q3)) :: Γ) st=.ok (.tup (gs.map Q3).reverse) st:=fun Γ=>rfl
  have c2:cut (gs.map Q3) none (some 1)=(gs.map Q3).take 1:=cut_front (gs.map Q3) 1
  have a2:oAdd st (.tup (gs.map Q3).reverse) (.tup ((gs.map Q3).take 1))=.ok (.tup ((gs.map Q3).reverse ++ (gs.map Q3).take 1)) st:=by rw [oAdd_tup,if_pos (by rw [lim_eq]; simp; omega)]
  have a3:oAdd st (.tup (gs.map Q3)) (.tup [.tup []])=.ok (.tup (gs.map Q3 ++ [.tup []])) st:=by rw [oAdd_tup,if_pos (by rw [lim_eq]; simp; omega)]
  have eb:badB n gs=[.tup [.int n,.tup ((gs.map Q3).reverse ++ (gs.map Q3).take 1)],.tup [.int n,.tup []],.tup [.int n,.tup (gs.map Q3 ++ [.tup []])],.tup [.int 10,.tup (gs.map Q3)],.tup [.int 0,.tup (gs.map Q3)]] ++ [.tup [.int n,.tup [.tup [.int n]]],.non,.tup (gs.map Q3),.tup []]:=by
    unfold badB setsV
    rw [List.map_append,List.map_reverse,List.map_take]; rfl
  have es:(badS n).map Q3=[.tup [.int n],.tup [.int (-1)],.tup [.int 0,.int 0],.tup [.int 1,.int 0],.tup [.int 0,.int n],.tup [.int 100000000000000000000],.tup [.int (-n)]]:=by
    unfold badS
    simp [Q3]
  have step:m__law_e_refusals_right [some (Q8 n gs),some (Q3 a),none,none,none,none,none,none] st=.rt (.bl true) st:=by
    have s1:mAsg (gaTup (gaCons (gaName 2) (gaCons (gaName 3) gaNil))) (Q5 0) [some (Q8 n gs),some (Q3 a),none,none,none,none,none,none] st=.nx [some (Q8 n gs),some (Q3 a),some (.int n),some (.tup (gs.map Q3)),none,none,none,none] st:=by
      unfold Q8 setsV
      generalize Q3 a=av
      generalize gs.map Q3=gv
      simp -implicitDefEqProofs
    unfold m__law_e_refusals_right
    rw [mSeqS_eq,s1]
    show mSeqS _ _ _ _=_
    have hrv:=hrv [none,none,none,none]
    rw [eb,es] at e1
    unfold setsV rfΓ at e1
    simp only [List.cons_append,List.nil_append] at e1
    generalize (gs.map Q3).reverse ++ (gs.map Q3).take 1=g1 at *
    generalize (gs.map Q3).reverse=g2 at *
    generalize (gs.map Q3).take 1=g3 at *
    generalize gs.map Q3 ++ [.tup []]=g4 at *
    generalize gs.map Q3=gv at *
    generalize Q8 n gs=bv at *
    generalize Q3 a=av at *
    simp -implicitDefEqProofs [hrv,sl_tup,c2,a2,a3,lim_eq,oAdd_lstL,e1,w1,w0,-oAdd_tup,-mRevT_eq]
  show callF m__law_e_refusals_right 8 _ st=_
  unfold callF
  rw [show (([Q8 n gs,Q3 a]:List PV).map some ++ List.replicate (8 - [Q8 n gs,Q3 a].length) none)=[some (Q8 n gs),some (Q3 a),none,none,none,none,none,none] from rfl,step]
  simp [fin,fz]
theorem forG_invB {α:Type} (g:α->PV) {xs:List α} (I:Gam->Q0->Prop) {ga:GA} {body:MS} (h:∀ x Γ st,x ∈ xs->I Γ st->∃ Γ1,ga (g x) Γ=some Γ1/\∃ Γ2 st2,I Γ2 st2/\(body Γ1 st=.nx Γ2 st2\/body Γ1 st=.bk Γ2 st2)) {Γ:Gam} {st:Q0} (h0:I Γ st):∃ Γ' st',forG ga body [] (xs.map g) Γ st=.nx Γ' st'/\I Γ' st':=by
  induction xs generalizing Γ st with
  | nil=>exact ⟨Γ,st,by simp [forG],h0⟩
  | cons x xs ih=>
    obtain ⟨Γ1,h1,Γ2,st2,i2,e2⟩:=h x Γ st List.mem_cons_self h0
    rw [List.map_cons,forG,if_pos (by simp),h1]
    rcases e2 with e2 | e2
    · simp only [e2]
      exact ih (fun y Γ st hy=>h y Γ st (List.mem_cons_of_mem _ hy)) i2
    · simp only [e2]
      exact ⟨Γ2,st2,rfl,i2⟩
theorem bk_eq (Γ:Gam) (st:Q0):mBreak Γ st=.bk Γ st:=rfl
abbrev lw56 (ns:List Int) (b2 b3 b4 b5 b6 b7 b8 b9:Option PV):Gam:=[some (.fro (ns.map .int)),some (.ref 0),b2,b3,b4,b5,b6,b7,b8,b9]
theorem lk56 {n:Nat} {gs:List (List Int)} (B:BOk n gs) {a o:List Int} (ha:GOk n a) (ho:o.length<=30) (ns:List Int) (S:Q0) (b2 b4 b5 b6 b7:Option PV):b_law_3 (lw56 ns b2 (some (Q8 n gs)) b4 b5 b6 b7 (some (Q3 a)) (some (Q3 o))) S=.nx (lw56 ns b2 (some (Q8 n gs)) b4 b5 b6 b7 (some (Q3 a)) (some (Q3 o))) S:=by
  have h:=looks_ok B ha ho S
  unfold lw56
  generalize Q8 n gs=bv at *
  generalize Q3 a=av at *
  generalize Q3 o=ov at *
  generalize ns.map PV.int=nv at *
  simp -implicitDefEqProofs [b_law_3,h]
theorem two56 {n:Nat} {gs:List (List Int)} (B:BOk n gs) {a own oth:List Int} (ha:GOk n a) (h1:GOk n own) (h2:GOk n oth) (ns:List Int) (S:Q0) (b2 b9:Option PV):∃ c9,b_law_2 (lw56 ns b2 (some (Q8 n gs)) (some (.int n)) (some (setsV gs)) (some (Q3 own)) (some (Q3 oth)) (some (Q3 a)) b9) S=.nx (lw56 ns b2 (some (Q8 n gs)) (some (.int n)) (some (setsV gs)) (some (Q3 own)) (some (Q3 oth)) (some (Q3 a)) c9) S:=by
  obtain ⟨g0,gr,hgs⟩:∃ g0 gr,gs=g0 :: gr:=by
    cases gs with
    | nil=>exact absurd rfl B.ne
    | cons a b=>exact ⟨a,b,rfl⟩
  have G0:=B.ok g0 (by rw [hgs]; simp)
  have hl:∀ o ∈ [own,oth,own ++ [(n:Int)],[],g0],o.length<=30:=fun o ho=>by
    have q1:=h1.len
    have q2:=h2.len
    have q3:=G0.1.len
    simp only [List.mem_cons,List.not_mem_nil,or_false] at ho
    rcases ho with rfl | rfl | rfl | rfl | rfl
    · omega
    · omega
    · simp; omega
    · simp
    · omega
  obtain ⟨Γ',S',e,c9,rfl,hS'⟩:=forG_inv (g:=Q3) (xs:=[own,oth,own ++ [(n:Int)],[],g0]) (ga:=gaName 9) (body:=b_law_3) (w:=[]) (Γ:=lw56 ns b2 (some (Q8 n gs)) (some (.int n)) (some (setsV gs)) (some (Q3 own)) (some (Q3 oth)) (some (Q3 a)) b9) (st:=S)
    (fun _ Γ st'=>∃ c9,Γ=lw56 ns b2 (some (Q8 n gs)) (some (.int n)) (some (setsV gs)) (some (Q3 own)) (some (Q3 oth)) (some (Q3 a)) c9/\st'=S)
    (fun _ _ _ _=>by simp)
    (fun i x Γ st' hxi ⟨c9,g1,g2⟩=>by
      subst g1
      exact ⟨_,rfl,_,_,lk56 B ha (hl x (List.mem_of_getElem? hxi)) ns st' b2 _ _ _ _,_,rfl,g2⟩)
    ⟨_,rfl,rfl⟩
  rw [hS',show [own,oth,own ++ [(n:Int)],[],g0].map Q3=[Q3 own,Q3 oth,Q3 (own ++ [(n:Int)]),.tup [],Q3 g0] from rfl] at e
  clear hS'
  refine ⟨c9,?_⟩
  have ha:oAdd S (Q3 own) (.tup [.int n])=.ok (Q3 (own ++ [(n:Int)])) S:=by
    unfold Q3
    rw [oAdd_tup,if_pos (by rw [lim_eq]; have:=h1.len; simp; omega),List.map_append]; rfl
  have hi0:oIx S (setsV gs) (.int 0)=.ok (Q3 g0) S:=by
    have h:oIx S (.tup (gs.map Q3)) (.int 0)=okO S (atI (gs.map Q3) ((0:Nat):Int)):=rfl
    unfold setsV
    rw [h,atI_map,Sm.atI_get (show gs[0]?=some g0 by rw [hgs]; rfl)]; rfl
  unfold lw56 at e ⊢
  generalize Q8 n gs=bv at *
  generalize setsV gs=sv at *
  generalize Q3 a=av at *
  generalize Q3 own=v1 at *
  generalize Q3 oth=v2 at *
  generalize Q3 (own ++ [(n:Int)])=v3 at *
  generalize Q3 g0=v4 at *
  generalize ns.map PV.int=nv at *
  simp -implicitDefEqProofs [b_law_2,ha,hi0,lim_eq,e]
theorem turn56L {ns:List Int} (k:Nat) {S:Q0} (T:TapeAt S 0 ns) (b3 b4 b5 b6 b7 b8 b9:Option PV) :
    ∃ Γ2 S2,(∃ c2 c3 c4 c5 c6 c7 c8 c9,Γ2=lw56 ns c2 c3 c4 c5 c6 c7 c8 c9)/\TapeAt S2 0 ns/\(b_law_1 (lw56 ns (some (.int k)) b3 b4 b5 b6 b7 b8 b9) S=.nx Γ2 S2\/b_law_1 (lw56 ns (some (.int k)) b3 b4 b5 b6 b7 b8 b9) S=.bk Γ2 S2):=by
  obtain ⟨pp,cc,hS⟩:=id T
  obtain ⟨_,i1,_⟩:=tape_ix hS
  have hnl:(ns.map PV.int).length=ns.length:=List.length_map _
  by_cases hbr:1 < k/\ns.length<=pp
  · refine ⟨lw56 ns (some (.int k)) b3 b4 b5 b6 b7 b8 b9,S,⟨_,_,_,_,_,_,_,_,rfl⟩,T,.inr ?_⟩
    obtain ⟨q1,q2⟩:=hbr
    have q1':(1:Int) < k:=by omega
    have q2':(ns.length:Int)<=(pp:Int):=by omega
    unfold lw56
    generalize ns.length=nl at *
    generalize ns.map PV.int=nv at *
    simp -implicitDefEqProofs [b_law_1,q1',q2',i1,hnl,q2,bk_eq,-oIx_r]
  · have sA:∀ X:MS,(mSeqS (mIfS (tAndM (toB (mOp (oI fun a b=>.bl (decide (b < a))) (Q5 2) (mC (.int 1)))) (toB (mOp (oI fun a b=>.bl (decide (b<=a))) (mOp oIx (Q5 1) (mC (.int 1))) (mCall cLen (Q4 (Q5 0) Qe))))) mBreak mNext) X) (lw56 ns (some (.int k)) b3 b4 b5 b6 b7 b8 b9) S=X (lw56 ns (some (.int k)) b3 b4 b5 b6 b7 b8 b9) S:=fun X=>by
      unfold lw56
      generalize ns.length=nl at *
      generalize ns.map PV.int=nv at *
      by_cases q1:1 < k
      · have q2:¬ nl<=pp:=fun z=>hbr ⟨q1,z⟩
        have q1':(1:Int) < k:=by omega
        have q2':¬ (nl:Int)<=(pp:Int):=by omega
        simp -implicitDefEqProofs [q1',q2,q2',i1,hnl,-oIx_r]
      · have q1':¬ (1:Int) < k:=by omega
        simp -implicitDefEqProofs [q1']
    obtain ⟨n,gs,S1,hn1,hn6,B,T1,e1⟩:=book_drawn T
    have hgl:=B.len
    have hgp:1<=gs.length:=List.length_pos_iff.mpr B.ne
    obtain ⟨d,S2,hd,T2,M2,e2⟩:=digit_ok T1 gs.length hgp (by omega)
    obtain ⟨own,hown⟩:∃ own,gs[d]?=some own:=⟨gs[d],List.getElem?_eq_getElem hd⟩
    have Gown:=B.ok own (List.mem_of_getElem? hown)
    obtain ⟨oth,S3,T3,M3,Goth,e3⟩:=subset_ok T2 n (by omega)
    obtain ⟨sub,S4,T4,M4,Gsub,e4⟩:=subset_ok T3 n (by omega)
    have Gnil:GOk n []:=⟨fun _ h=>absurd h (by simp),by simp,by simp⟩
    have Grng:GOk n ((List.range n).map fun k:Nat=>(k:Int)):=grp_gok (by omega) all_range
    have s1:mSet 3 (mCallF 2 F__law_e_book (Q4 (Q5 1) (Q4 (mC (.int 6)) Qe))) (lw56 ns (some (.int k)) b3 b4 b5 b6 b7 b8 b9) S=.nx (lw56 ns (some (.int k)) (some (Q8 n gs)) b4 b5 b6 b7 b8 b9) S1:=by
      unfold lw56
      generalize ns.map PV.int=nv at *
      generalize Q8 n gs=bv at *
      simp -implicitDefEqProofs [e1]
    have s2:mAsg (gaTup (gaCons (gaName 4) (gaCons (gaName 5) gaNil))) (Q5 3) (lw56 ns (some (.int k)) (some (Q8 n gs)) b4 b5 b6 b7 b8 b9) S1=.nx (lw56 ns (some (.int k)) (some (Q8 n gs)) (some (.int n)) (some (setsV gs)) b6 b7 b8 b9) S1:=by
      unfold lw56 Q8
      generalize ns.map PV.int=nv at *
      generalize setsV gs=sv at *
      simp -implicitDefEqProofs
    have hcl:cLen S1 [setsV gs]=.ok (.int (gs.length:Nat)) S1:=by simp [setsV]
    have hix:oIx S2 (setsV gs) (.int d)=.ok (Q3 own) S2:=by
      have h:oIx S2 (.tup (gs.map Q3)) (.int d)=okO S2 (atI (gs.map Q3) (d:Int)):=rfl
      unfold setsV
      rw [h,atI_map,Sm.atI_get hown]; rfl
    have s3:mSet 6 (mOp oIx (Q5 5) (mCallF 2 F__law_e_digit (Q4 (Q5 1) (Q4 (mCall cLen (Q4 (Q5 5) Qe)) Qe)))) (lw56 ns (some (.int k)) (some (Q8 n gs)) (some (.int n)) (some (setsV gs)) b6 b7 b8 b9) S1=.nx (lw56 ns (some (.int k)) (some (Q8 n gs)) (some (.int n)) (some (setsV gs)) (some (Q3 own)) b7 b8 b9) S2:=by
      unfold lw56
      generalize ns.map PV.int=nv at *
      generalize setsV gs=sv at *
      generalize Q8 n gs=bv at *
      generalize Q3 own=ov at *
      simp -implicitDefEqProofs [hcl,e2,hix]
    have s4:mSet 7 (mCallF 2 F__law_e_subset (Q4 (Q5 1) (Q4 (Q5 4) Qe))) (lw56 ns (some (.int k)) (some (Q8 n gs)) (some (.int n)) (some (setsV gs)) (some (Q3 own)) b7 b8 b9) S2=.nx (lw56 ns (some (.int k)) (some (Q8 n gs)) (some (.int n)) (some (setsV gs)) (some (Q3 own)) (some (Q3 oth)) b8 b9) S3:=by
      unfold lw56
      generalize ns.map PV.int=nv at *
      generalize setsV gs=sv at *
      generalize Q8 n gs=bv at *
      generalize Q3 own=ov at *
      generalize Q3 oth=tv at *
      simp -implicitDefEqProofs [e3]
    have hG:∀ a ∈ [sub,own,oth,[],(List.range n).map fun k:Nat=>(k:Int)],GOk n a:=fun a h=>by
      simp only [List.mem_cons,List.not_mem_nil,or_false] at h
      rcases h with rfl | rfl | rfl | rfl | rfl
      · exact Gsub
      · exact Gown.1
      · exact Goth
      · exact Gnil
      · exact Grng
    obtain ⟨Γ',S',e5,c8,c9,rfl,hS'⟩:=forG_inv (g:=Q3) (xs:=[sub,own,oth,[],(List.range n).map fun k:Nat=>(k:Int)]) (ga:=gaName 8) (body:=b_law_2) (w:=[]) (Γ:=lw56 ns (some (.int k)) (some (Q8 n gs)) (some (.int n)) (some (setsV gs)) (some (Q3 own)) (some (Q3 oth)) b8 b9) (st:=S4)
      (fun _ Γ st'=>∃ c8 c9,Γ=lw56 ns (some (.int k)) (some (Q8 n gs)) (some (.int n)) (some (setsV gs)) (some (Q3 own)) (some (Q3 oth)) c8 c9/\st'=S4)
      (fun _ _ _ _=>by simp)
      (fun i x Γ st' hxi ⟨c8,c9,g1,g2⟩=>by
        subst g1
        obtain ⟨d9,e⟩:=two56 B (hG x (List.mem_of_getElem? hxi)) Gown.1 Goth ns st' (some (.int k)) c9
        exact ⟨_,rfl,_,_,e,_,_,rfl,g2⟩)
      ⟨_,_,rfl,rfl⟩
    rw [hS',show [sub,own,oth,[],(List.range n).map fun k:Nat=>(k:Int)].map Q3=[Q3 sub,Q3 own,Q3 oth,.tup [],Q3 ((List.range n).map fun k:Nat=>(k:Int))] from rfl] at e5
    clear hS'
    have htr:∀ Γ:Gam,mTR (Q5 4) (some (.fro (ns.map .int)) :: some (.ref 0) :: some (.int k) :: some (Q8 n gs) :: some (.int n) :: Γ) S4=.ok (Q3 ((List.range n).map fun k:Nat=>(k:Int))) S4:=fun Γ=>by
      have hn':(n:Int)<=1000000:=by omega
      unfold Q3
      rw [List.map_map]
      generalize ns.map PV.int=nv at *
      generalize Q8 n gs=bv at *
      simp -implicitDefEqProofs [lim_eq,rangeI0,hn']
    have htr:=htr [some (setsV gs),some (Q3 own),some (Q3 oth),b8,b9]
    have s5:mFor (gaName 8) (mSeq (mLst (Q4 (mCallF 2 F__law_e_subset (Q4 (Q5 1) (Q4 (Q5 4) Qe))) (Q4 (Q5 6) (Q4 (Q5 7) (Q4 (mTup Qe) (Q4 (mTR (Q5 4)) Qe))))))) b_law_2 (lw56 ns (some (.int k)) (some (Q8 n gs)) (some (.int n)) (some (setsV gs)) (some (Q3 own)) (some (Q3 oth)) b8 b9) S3=.nx (lw56 ns (some (.int k)) (some (Q8 n gs)) (some (.int n)) (some (setsV gs)) (some (Q3 own)) (some (Q3 oth)) c8 c9) S4:=by
      unfold lw56 at e5 ⊢
      generalize Q3 ((List.range n).map fun k:Nat=>(k:Int))=rv at *
      generalize ns.map PV.int=nv at *
      generalize setsV gs=sv at *
      generalize Q8 n gs=bv at *
      generalize Q3 own=ov at *
      generalize Q3 oth=tv at *
      generalize Q3 sub=uv at *
      simp -implicitDefEqProofs [e4,htr,lim_eq,e5,-mTR_eq]
    have rf:=refusals_ok B Gown.1 Gown.2 S4
    refine ⟨_,S4,⟨some (.int k),some (Q8 n gs),some (.int n),some (setsV gs),some (Q3 own),some (Q3 oth),c8,c9,rfl⟩,T4,.inl ?_⟩
    unfold b_law_1
    rw [sA,mSeqS_eq,s1]
    show mSeqS _ _ _ _=_
    rw [mSeqS_eq,s2]
    show mSeqS _ _ _ _=_
    rw [mSeqS_eq,s3]
    show mSeqS _ _ _ _=_
    rw [mSeqS_eq,s4]
    show mSeqS _ _ _ _=_
    rw [mSeqS_eq,s5]
    show mIfS _ _ _ _ _=_
    unfold lw56
    generalize ns.map PV.int=nv at *
    generalize Q8 n gs=bv at *
    generalize setsV gs=sv at *
    generalize Q3 own=ov at *
    generalize Q3 oth=tv at *
    simp -implicitDefEqProofs [rf]
theorem law_true (ns:List Int):F_law [.fro (ns.map .int)] []=.ok (.bl true) []:=by
  have T0:TapeAt [.lst [.fro (ns.map .int),.int 0,.int 0]] 0 ns:=⟨0,0,rfl⟩
  obtain ⟨Γ',S1,e1,⟨c2,c3,c4,c5,c6,c7,c8,c9,rfl⟩,T1⟩:=forG_invB (g:=fun k:Nat=>PV.int (k:Int)) (xs:=List.range 4) (ga:=gaName 2) (body:=b_law_1) (Γ:=lw56 ns none none none none none none none none) (st:=[.lst [.fro (ns.map .int),.int 0,.int 0]])
    (fun Γ st'=>(∃ c2 c3 c4 c5 c6 c7 c8 c9,Γ=lw56 ns c2 c3 c4 c5 c6 c7 c8 c9)/\TapeAt st' 0 ns)
    (fun k Γ st' _ ⟨⟨c2,c3,c4,c5,c6,c7,c8,c9,g1⟩,T⟩=>by
      subst g1
      obtain ⟨Γ2,S2,h1,h2,h3⟩:=turn56L k T c3 c4 c5 c6 c7 c8 c9
      exact ⟨_,rfl,Γ2,S2,⟨h1,h2⟩,h3⟩)
    ⟨⟨_,_,_,_,_,_,_,_,rfl⟩,T0⟩
  rw [<- rangeI0] at e1
  have hfin:∀ S,fin [] (.bl true) S=.ok (.bl true) []:=fun S=>by simp [fin,fz]
  have step:m_law [some (.fro (ns.map .int)),none,none,none,none,none,none,none,none,none] []=.rt (.bl true) S1:=by
    unfold lw56 at e1
    generalize ns.map PV.int=nv at *
    simp -implicitDefEqProofs [m_law,lim_eq,e1]
  show callF m_law 10 _ []=_
  unfold callF
  rw [show (([PV.fro (ns.map .int)]:List PV).map some ++ List.replicate (10 - [PV.fro (ns.map .int)].length) none)=[some (.fro (ns.map .int)),none,none,none,none,none,none,none,none,none] from rfl,step]
  exact hfin S1
theorem law_all:∀ ns:List Int,ns.length<=63->∃ st',F_law [.fro (ns.map .int)] []=.ok (.bl true) st':=fun ns _=>⟨[],law_true ns⟩
end Lw
namespace Lw
open PySem PySem.Spec L2 Sm
theorem all_mk {l:PySem.W.OpenLaw} {w:World} {K:PySem.W.Frag} {h:Heap} {mg:Str->Option Value} {fa f1 f2 f3 f4 f5 f6 f7 f8 f9 f10 f11 f12 f13 f14 f15 f16 f17 f18 f19 f20 f21 f22 f23 f24 f25 f26 f27 f28 f29 f30 f31 f32 f33 f34 f35:Addr} (X:K.In h) (G:h.Ns mainGlobals mg) (hfa:mg "law" = some (.ref fa))
    {od1 an1 od2 an2 od3 an3 od4 an4 od5 an5 od6 an6 od7 an7 od8 an8 od9 an9 od10 an10 od11 an11 od12 an12 od13 an13 od14 an14 od15 an15 od16 an16 od17 an17 od18 an18 od19 an19 od20 an20 od21 an21 od22 an22 od23 an23 od24 an24 od25 an25 od26 an26 od27 an27 od28 an28 od29 an29 od30 an30 od31 an31 od32 an32 od33 an33 od34 an34 od35 an35:Option Addr}
    {sl1 sl2 sl3 sl4 sl5 sl6 sl7 sl8 sl9 sl10 sl11 sl12 sl13 sl14 sl15 sl16 sl17 sl18 sl19 sl20 sl21 sl22 sl23 sl24 sl25 sl26 sl27 sl28 sl29 sl30 sl31 sl32 sl33 sl34 sl35:Array (Option Value)}
    {oc1 kV1 dc1 pm1 cd1 ct1 oc2 kV2 dc2 pm2 cd2 ct2 oc3 kV3 dc3 pm3 cd3 ct3 oc4 kV4 dc4 pm4 cd4 ct4 oc5 kV5 dc5 pm5 cd5 ct5 oc6 kV6 dc6 pm6 cd6 ct6 oc7 kV7 dc7 pm7 cd7 ct7 oc8 kV8 dc8 pm8 cd8 ct8 oc9 kV9 dc9 pm9 cd9 ct9 oc10 kV10 dc10 pm10 cd10 ct10 oc11 kV11 dc11 pm11 cd11 ct11 oc12 kV12 dc12 pm12 cd12 ct12 oc13 kV13 dc13 pm13 cd13 ct13 oc14 kV14 dc14 pm14 cd14 ct14 oc15 kV15 dc15 pm15 cd15 ct15 oc16 kV16 dc16 pm16 cd16 ct16 oc17 kV17 dc17 pm17 cd17 ct17 oc18 kV18 dc18 pm18 cd18 ct18 oc19 kV19 dc19 pm19 cd19 ct19 oc20 kV20 dc20 pm20 cd20 ct20 oc21 kV21 dc21 pm21 cd21 ct21 oc22 kV22 dc22 pm22 cd22 ct22 oc23 kV23 dc23 pm23 cd23 ct23 oc24 kV24 dc24 pm24 cd24 ct24 oc25 kV25 dc25 pm25 cd25 ct25 oc26 kV26 dc26 pm26 cd26 ct26 oc27 kV27 dc27 pm27 cd27 ct27 oc28 kV28 dc28 pm28 cd28 ct28 oc29 kV29 dc29 pm29 cd29 ct29 oc30 kV30 dc30 pm30 cd30 ct30 oc31 kV31 dc31 pm31 cd31 ct31 oc32 kV32 dc32 pm32 cd32 ct32 oc33 kV33 dc33 pm33 cd33 ct33 oc34 kV34 dc34 pm34 cd34 ct34 oc35 kV35 dc35 pm35 cd35 ct35:Value}
    {e_NoBook e_NoHouse:Addr}
    {t_MOST_HOUSES_OF_BOOK:Tok}
    {ee0 ee1 ee2 ee3 ee4 ee5 ee6 ee7 ee8 ee9 ee10 ee11 ee12 ee13 ee14:Addr} {cdx8 cdx2:ClassData}
    (a1:PySem.W.nsIn K mainGlobals "is_whole" = some (some (.ref f1))) (l1:K.lookup f1=some ⟨oc1,od1,.func (PySem.W.fnOf "is_whole" "is_whole" (defArgs s_is_whole) (defBody s_is_whole) (Q7 s_is_whole) .none kV1 dc1 pm1 an1 cd1 ct1),sl1⟩) (c1:PySem.W.codeIn K cd1 "is_whole" = true) (k1:PySem.W.keepIn K (.ref f1)=true)
    (a2:PySem.W.nsIn K mainGlobals "is_between" = some (some (.ref f2))) (l2:K.lookup f2=some ⟨oc2,od2,.func (PySem.W.fnOf "is_between" "is_between" (defArgs s_is_between) (defBody s_is_between) (Q7 s_is_between) .none kV2 dc2 pm2 an2 cd2 ct2),sl2⟩) (c2:PySem.W.codeIn K cd2 "is_between" = true) (k2:PySem.W.keepIn K (.ref f2)=true)
    (a3:PySem.W.nsIn K mainGlobals "is_rising" = some (some (.ref f3))) (l3:K.lookup f3=some ⟨oc3,od3,.func (PySem.W.fnOf "is_rising" "is_rising" (defArgs s_is_rising) (defBody s_is_rising) (Q7 s_is_rising) .none kV3 dc3 pm3 an3 cd3 ct3),sl3⟩) (c3:PySem.W.codeIn K cd3 "is_rising" = true) (k3:PySem.W.keepIn K (.ref f3)=true)
    (a4:PySem.W.nsIn K mainGlobals "is_sized_tuple" = some (some (.ref f4))) (l4:K.lookup f4=some ⟨oc4,od4,.func (PySem.W.fnOf "is_sized_tuple" "is_sized_tuple" (defArgs s_is_sized_tuple) (defBody s_is_sized_tuple) (Q7 s_is_sized_tuple) .none kV4 dc4 pm4 an4 cd4 ct4),sl4⟩) (c4:PySem.W.codeIn K cd4 "is_sized_tuple" = true) (k4:PySem.W.keepIn K (.ref f4)=true)
    (a5:PySem.W.nsIn K mainGlobals "are_rising_houses" = some (some (.ref f5))) (l5:K.lookup f5=some ⟨oc5,od5,.func (PySem.W.fnOf "are_rising_houses" "are_rising_houses" (defArgs s_are_rising_houses) (defBody s_are_rising_houses) (Q7 s_are_rising_houses) .none kV5 dc5 pm5 an5 cd5 ct5),sl5⟩) (c5:PySem.W.codeIn K cd5 "are_rising_houses" = true) (k5:PySem.W.keepIn K (.ref f5)=true)
    (a6:PySem.W.nsIn K mainGlobals "is_group" = some (some (.ref f6))) (l6:K.lookup f6=some ⟨oc6,od6,.func (PySem.W.fnOf "is_group" "is_group" (defArgs s_is_group) (defBody s_is_group) (Q7 s_is_group) .none kV6 dc6 pm6 an6 cd6 ct6),sl6⟩) (c6:PySem.W.codeIn K cd6 "is_group" = true) (k6:PySem.W.keepIn K (.ref f6)=true)
    (a7:PySem.W.nsIn K mainGlobals "are_sets" = some (some (.ref f7))) (l7:K.lookup f7=some ⟨oc7,od7,.func (PySem.W.fnOf "are_sets" "are_sets" (defArgs s_are_sets) (defBody s_are_sets) (Q7 s_are_sets) .none kV7 dc7 pm7 an7 cd7 ct7),sl7⟩) (c7:PySem.W.codeIn K cd7 "are_sets" = true) (k7:PySem.W.keepIn K (.ref f7)=true)
    (a8:PySem.W.nsIn K mainGlobals "is_book" = some (some (.ref f8))) (l8:K.lookup f8=some ⟨oc8,od8,.func (PySem.W.fnOf "is_book" "is_book" (defArgs s_is_book) (defBody s_is_book) (Q7 s_is_book) .none kV8 dc8 pm8 an8 cd8 ct8),sl8⟩) (c8:PySem.W.codeIn K cd8 "is_book" = true) (k8:PySem.W.keepIn K (.ref f8)=true)
    (a9:PySem.W.nsIn K mainGlobals "need_book" = some (some (.ref f9))) (l9:K.lookup f9=some ⟨oc9,od9,.func (PySem.W.fnOf "need_book" "need_book" (defArgs s_need_book) (defBody s_need_book) (Q7 s_need_book) .none kV9 dc9 pm9 an9 cd9 ct9),sl9⟩) (c9:PySem.W.codeIn K cd9 "need_book" = true) (k9:PySem.W.keepIn K (.ref f9)=true)
    (a10:PySem.W.nsIn K mainGlobals "need_gone" = some (some (.ref f10))) (l10:K.lookup f10=some ⟨oc10,od10,.func (PySem.W.fnOf "need_gone" "need_gone" (defArgs s_need_gone) (defBody s_need_gone) (Q7 s_need_gone) .none kV10 dc10 pm10 an10 cd10 ct10),sl10⟩) (c10:PySem.W.codeIn K cd10 "need_gone" = true) (k10:PySem.W.keepIn K (.ref f10)=true)
    (a11:PySem.W.nsIn K mainGlobals "need_pool_of_book" = some (some (.ref f11))) (l11:K.lookup f11=some ⟨oc11,od11,.func (PySem.W.fnOf "need_pool_of_book" "need_pool_of_book" (defArgs s_need_pool_of_book) (defBody s_need_pool_of_book) (Q7 s_need_pool_of_book) .none kV11 dc11 pm11 an11 cd11 ct11),sl11⟩) (c11:PySem.W.codeIn K cd11 "need_pool_of_book" = true) (k11:PySem.W.keepIn K (.ref f11)=true)
    (a12:PySem.W.nsIn K mainGlobals "meets" = some (some (.ref f12))) (l12:K.lookup f12=some ⟨oc12,od12,.func (PySem.W.fnOf "meets" "meets" (defArgs s_meets) (defBody s_meets) (Q7 s_meets) .none kV12 dc12 pm12 an12 cd12 ct12),sl12⟩) (c12:PySem.W.codeIn K cd12 "meets" = true) (k12:PySem.W.keepIn K (.ref f12)=true)
    (a13:PySem.W.nsIn K mainGlobals "set_without" = some (some (.ref f13))) (l13:K.lookup f13=some ⟨oc13,od13,.func (PySem.W.fnOf "set_without" "set_without" (defArgs s_set_without) (defBody s_set_without) (Q7 s_set_without) .none kV13 dc13 pm13 an13 cd13 ct13),sl13⟩) (c13:PySem.W.codeIn K cd13 "set_without" = true) (k13:PySem.W.keepIn K (.ref f13)=true)
    (a14:PySem.W.nsIn K mainGlobals "set_within" = some (some (.ref f14))) (l14:K.lookup f14=some ⟨oc14,od14,.func (PySem.W.fnOf "set_within" "set_within" (defArgs s_set_within) (defBody s_set_within) (Q7 s_set_within) .none kV14 dc14 pm14 an14 cd14 ct14),sl14⟩) (c14:PySem.W.codeIn K cd14 "set_within" = true) (k14:PySem.W.keepIn K (.ref f14)=true)
    (a15:PySem.W.nsIn K mainGlobals "free_set" = some (some (.ref f15))) (l15:K.lookup f15=some ⟨oc15,od15,.func (PySem.W.fnOf "free_set" "free_set" (defArgs s_free_set) (defBody s_free_set) (Q7 s_free_set) .none kV15 dc15 pm15 an15 cd15 ct15),sl15⟩) (c15:PySem.W.codeIn K cd15 "free_set" = true) (k15:PySem.W.keepIn K (.ref f15)=true)
    (a16:PySem.W.nsIn K mainGlobals "unmet_set" = some (some (.ref f16))) (l16:K.lookup f16=some ⟨oc16,od16,.func (PySem.W.fnOf "unmet_set" "unmet_set" (defArgs s_unmet_set) (defBody s_unmet_set) (Q7 s_unmet_set) .none kV16 dc16 pm16 an16 cd16 ct16),sl16⟩) (c16:PySem.W.codeIn K cd16 "unmet_set" = true) (k16:PySem.W.keepIn K (.ref f16)=true)
    (a17:PySem.W.nsIn K mainGlobals "is_stuck" = some (some (.ref f17))) (l17:K.lookup f17=some ⟨oc17,od17,.func (PySem.W.fnOf "is_stuck" "is_stuck" (defArgs s_is_stuck) (defBody s_is_stuck) (Q7 s_is_stuck) .none kV17 dc17 pm17 an17 cd17 ct17),sl17⟩) (c17:PySem.W.codeIn K cd17 "is_stuck" = true) (k17:PySem.W.keepIn K (.ref f17)=true)
    (a18:PySem.W.nsIn K mainGlobals "is_blind" = some (some (.ref f18))) (l18:K.lookup f18=some ⟨oc18,od18,.func (PySem.W.fnOf "is_blind" "is_blind" (defArgs s_is_blind) (defBody s_is_blind) (Q7 s_is_blind) .none kV18 dc18 pm18 an18 cd18 ct18),sl18⟩) (c18:PySem.W.codeIn K cd18 "is_blind" = true) (k18:PySem.W.keepIn K (.ref f18)=true)
    (a19:PySem.W.nsIn K mainGlobals "groups_of" = some (some (.ref f19))) (l19:K.lookup f19=some ⟨oc19,od19,.func (PySem.W.fnOf "groups_of" "groups_of" (defArgs s_groups_of) (defBody s_groups_of) (Q7 s_groups_of) .none kV19 dc19 pm19 an19 cd19 ct19),sl19⟩) (c19:PySem.W.codeIn K cd19 "groups_of" = true) (k19:PySem.W.keepIn K (.ref f19)=true)
    (a20:PySem.W.nsIn K mainGlobals "paper_of" = some (some (.ref f20))) (l20:K.lookup f20=some ⟨oc20,od20,.func (PySem.W.fnOf "paper_of" "paper_of" (defArgs s_paper_of) (defBody s_paper_of) (Q7 s_paper_of) .none kV20 dc20 pm20 an20 cd20 ct20),sl20⟩) (c20:PySem.W.codeIn K cd20 "paper_of" = true) (k20:PySem.W.keepIn K (.ref f20)=true)
    (a21:PySem.W.nsIn K mainGlobals "bears" = some (some (.ref f21))) (l21:K.lookup f21=some ⟨oc21,od21,.func (PySem.W.fnOf "bears" "bears" (defArgs s_bears) (defBody s_bears) (Q7 s_bears) .none kV21 dc21 pm21 an21 cd21 ct21),sl21⟩) (c21:PySem.W.codeIn K cd21 "bears" = true) (k21:PySem.W.keepIn K (.ref f21)=true)
    (a22:PySem.W.nsIn K mainGlobals "most_borne" = some (some (.ref f22))) (l22:K.lookup f22=some ⟨oc22,od22,.func (PySem.W.fnOf "most_borne" "most_borne" (defArgs s_most_borne) (defBody s_most_borne) (Q7 s_most_borne) .none kV22 dc22 pm22 an22 cd22 ct22),sl22⟩) (c22:PySem.W.codeIn K cd22 "most_borne" = true) (k22:PySem.W.keepIn K (.ref f22)=true)
    (a23:PySem.W.nsIn K mainGlobals "_law_e_stirred" = some (some (.ref f23))) (l23:K.lookup f23=some ⟨oc23,od23,.func (PySem.W.fnOf "_law_e_stirred" "_law_e_stirred" (defArgs s__law_e_stirred) (defBody s__law_e_stirred) (Q7 s__law_e_stirred) .none kV23 dc23 pm23 an23 cd23 ct23),sl23⟩) (c23:PySem.W.codeIn K cd23 "_law_e_stirred" = true) (k23:PySem.W.keepIn K (.ref f23)=true)
    (a24:PySem.W.nsIn K mainGlobals "_law_e_digit" = some (some (.ref f24))) (l24:K.lookup f24=some ⟨oc24,od24,.func (PySem.W.fnOf "_law_e_digit" "_law_e_digit" (defArgs s__law_e_digit) (defBody s__law_e_digit) (Q7 s__law_e_digit) .none kV24 dc24 pm24 an24 cd24 ct24),sl24⟩) (c24:PySem.W.codeIn K cd24 "_law_e_digit" = true) (k24:PySem.W.keepIn K (.ref f24)=true)
    (a25:PySem.W.nsIn K mainGlobals "_law_e_subset" = some (some (.ref f25))) (l25:K.lookup f25=some ⟨oc25,od25,.func (PySem.W.fnOf "_law_e_subset" "_law_e_subset" (defArgs s__law_e_subset) (defBody s__law_e_subset) (Q7 s__law_e_subset) .none kV25 dc25 pm25 an25 cd25 ct25),sl25⟩) (c25:PySem.W.codeIn K cd25 "_law_e_subset" = true) (k25:PySem.W.keepIn K (.ref f25)=true)
    (a26:PySem.W.nsIn K mainGlobals "_law_e_sized" = some (some (.ref f26))) (l26:K.lookup f26=some ⟨oc26,od26,.func (PySem.W.fnOf "_law_e_sized" "_law_e_sized" (defArgs s__law_e_sized) (defBody s__law_e_sized) (Q7 s__law_e_sized) .none kV26 dc26 pm26 an26 cd26 ct26),sl26⟩) (c26:PySem.W.codeIn K cd26 "_law_e_sized" = true) (k26:PySem.W.keepIn K (.ref f26)=true)
    (a27:PySem.W.nsIn K mainGlobals "_law_e_book" = some (some (.ref f27))) (l27:K.lookup f27=some ⟨oc27,od27,.func (PySem.W.fnOf "_law_e_book" "_law_e_book" (defArgs s__law_e_book) (defBody s__law_e_book) (Q7 s__law_e_book) .none kV27 dc27 pm27 an27 cd27 ct27),sl27⟩) (c27:PySem.W.codeIn K cd27 "_law_e_book" = true) (k27:PySem.W.keepIn K (.ref f27)=true)
    (a28:PySem.W.nsIn K mainGlobals "_law_e_hit" = some (some (.ref f28))) (l28:K.lookup f28=some ⟨oc28,od28,.func (PySem.W.fnOf "_law_e_hit" "_law_e_hit" (defArgs s__law_e_hit) (defBody s__law_e_hit) (Q7 s__law_e_hit) .none kV28 dc28 pm28 an28 cd28 ct28),sl28⟩) (c28:PySem.W.codeIn K cd28 "_law_e_hit" = true) (k28:PySem.W.keepIn K (.ref f28)=true)
    (a29:PySem.W.nsIn K mainGlobals "_law_e_within" = some (some (.ref f29))) (l29:K.lookup f29=some ⟨oc29,od29,.func (PySem.W.fnOf "_law_e_within" "_law_e_within" (defArgs s__law_e_within) (defBody s__law_e_within) (Q7 s__law_e_within) .none kV29 dc29 pm29 an29 cd29 ct29),sl29⟩) (c29:PySem.W.codeIn K cd29 "_law_e_within" = true) (k29:PySem.W.keepIn K (.ref f29)=true)
    (a30:PySem.W.nsIn K mainGlobals "_law_e_door" = some (some (.ref f30))) (l30:K.lookup f30=some ⟨oc30,od30,.func (PySem.W.fnOf "_law_e_door" "_law_e_door" (defArgs s__law_e_door) (defBody s__law_e_door) (Q7 s__law_e_door) .none kV30 dc30 pm30 an30 cd30 ct30),sl30⟩) (c30:PySem.W.codeIn K cd30 "_law_e_door" = true) (k30:PySem.W.keepIn K (.ref f30)=true)
    (a31:PySem.W.nsIn K mainGlobals "_law_e_kind" = some (some (.ref f31))) (l31:K.lookup f31=some ⟨oc31,od31,.func (PySem.W.fnOf "_law_e_kind" "_law_e_kind" (defArgs s__law_e_kind) (defBody s__law_e_kind) (Q7 s__law_e_kind) .none kV31 dc31 pm31 an31 cd31 ct31),sl31⟩) (c31:PySem.W.codeIn K cd31 "_law_e_kind" = true) (k31:PySem.W.keepIn K (.ref f31)=true)
    (a32:PySem.W.nsIn K mainGlobals "_law_e_word" = some (some (.ref f32))) (l32:K.lookup f32=some ⟨oc32,od32,.func (PySem.W.fnOf "_law_e_word" "_law_e_word" (defArgs s__law_e_word) (defBody s__law_e_word) (Q7 s__law_e_word) .none kV32 dc32 pm32 an32 cd32 ct32),sl32⟩) (c32:PySem.W.codeIn K cd32 "_law_e_word" = true) (k32:PySem.W.keepIn K (.ref f32)=true)
    (a33:PySem.W.nsIn K mainGlobals "_law_e_looks_right" = some (some (.ref f33))) (l33:K.lookup f33=some ⟨oc33,od33,.func (PySem.W.fnOf "_law_e_looks_right" "_law_e_looks_right" (defArgs s__law_e_looks_right) (defBody s__law_e_looks_right) (Q7 s__law_e_looks_right) .none kV33 dc33 pm33 an33 cd33 ct33),sl33⟩) (c33:PySem.W.codeIn K cd33 "_law_e_looks_right" = true) (k33:PySem.W.keepIn K (.ref f33)=true)
    (a34:PySem.W.nsIn K mainGlobals "_law_e_refusals_right" = some (some (.ref f34))) (l34:K.lookup f34=some ⟨oc34,od34,.func (PySem.W.fnOf "_law_e_refusals_right" "_law_e_refusals_right" (defArgs s__law_e_refusals_right) (defBody s__law_e_refusals_right) (Q7 s__law_e_refusals_right) .none kV34 dc34 pm34 an34 cd34 ct34),sl34⟩) (c34:PySem.W.codeIn K cd34 "_law_e_refusals_right" = true) (k34:PySem.W.keepIn K (.ref f34)=true)
    (a35:PySem.W.nsIn K mainGlobals "law" = some (some (.ref f35))) (l35:K.lookup f35=some ⟨oc35,od35,.func (PySem.W.fnOf "law" "law" (defArgs s_law) (defBody s_law) (Q7 s_law) .none kV35 dc35 pm35 an35 cd35 ct35),sl35⟩) (c35:PySem.W.codeIn K cd35 "law" = true) (k35:PySem.W.keepIn K (.ref f35)=true)
    (z_all:PySem.W.nsIn K mainGlobals "all" = some none)
    (z_any:PySem.W.nsIn K mainGlobals "any" = some none)
    (z_bool:PySem.W.nsIn K mainGlobals "bool" = some none)
    (z_int:PySem.W.nsIn K mainGlobals "int" = some none)
    (z_isinstance:PySem.W.nsIn K mainGlobals "isinstance" = some none)
    (z_len:PySem.W.nsIn K mainGlobals "len" = some none)
    (z_range:PySem.W.nsIn K mainGlobals "range" = some none)
    (z_sorted:PySem.W.nsIn K mainGlobals "sorted" = some none)
    (z_tuple:PySem.W.nsIn K mainGlobals "tuple" = some none)
    (z_zip:PySem.W.nsIn K mainGlobals "zip" = some none)
    (v_MOST_HOUSES_OF_BOOK:PySem.W.nsIn K mainGlobals "MOST_HOUSES_OF_BOOK" = some (some (.int 9 t_MOST_HOUSES_OF_BOOK)))
    (n_NoBook:PySem.W.nsIn K mainGlobals "NoBook" = some (some (.ref e_NoBook))) (x_NoBook:PySem.W.excIn K e_NoBook bmVE "ValueError.__new__" = true)
    (n_NoHouse:PySem.W.nsIn K mainGlobals "NoHouse" = some (some (.ref e_NoHouse))) (x_NoHouse:PySem.W.excIn K e_NoHouse bmVE "ValueError.__new__" = true)
    (nn0:PySem.W.nsIn K mainGlobals "WharfError" = some (some (.ref ee0)))
    (nn1:PySem.W.nsIn K mainGlobals "NoTable" = some (some (.ref ee1)))
    (nn2:PySem.W.nsIn K mainGlobals "NoHouse" = some (some (.ref ee2)))
    (nn3:PySem.W.nsIn K mainGlobals "NoDeed" = some (some (.ref ee3)))
    (nn4:PySem.W.nsIn K mainGlobals "NoLetter" = some (some (.ref ee4)))
    (nn5:PySem.W.nsIn K mainGlobals "NoStand" = some (some (.ref ee5)))
    (nn6:PySem.W.nsIn K mainGlobals "NoRoad" = some (some (.ref ee6)))
    (nn7:PySem.W.nsIn K mainGlobals "NoPlan" = some (some (.ref ee7)))
    (nn8:PySem.W.nsIn K mainGlobals "NoBook" = some (some (.ref ee8)))
    (nn9:PySem.W.nsIn K mainGlobals "NoManner" = some (some (.ref ee9)))
    (nn10:PySem.W.nsIn K mainGlobals "TooMany" = some (some (.ref ee10)))
    (nn11:PySem.W.nsIn K mainGlobals "NoText" = some (some (.ref ee11)))
    (nn12:PySem.W.nsIn K mainGlobals "NoRow" = some (some (.ref ee12)))
    (nn13:PySem.W.nsIn K mainGlobals "NoName" = some (some (.ref ee13)))
    (nn14:PySem.W.nsIn K mainGlobals "Short" = some (some (.ref ee14)))
    (nzValueError:PySem.W.nsIn K mainGlobals "ValueError" = some none)
    (nzisinstance:PySem.W.nsIn K mainGlobals "isinstance" = some none)
    (xgs:PySem.W.specialIn K (.builtin "object.__class__") "__get__" = some (some (.builtin "getset_descriptor.__get__")))
    (xtk:PySem.W.takesIn K (.builtin "object.__class__")=some true)
    (xcls8:PySem.W.clsIn K ee8=some cdx8)
    (xga8:PySem.W.findIn K (.ref ee8) "__getattribute__" = some (some (.builtin "BaseException.__getattribute__")))
    (xgt8:PySem.W.findIn K (.ref ee8) "__getattr__" = some none)
    (xcl8:PySem.W.findIn K (.ref ee8) "__class__" = some (some (.builtin "object.__class__")))
    (xob8:PySem.W.mroIn K ee8 (.type "object")=some true)
    (xbe8:PySem.W.mroIn K ee8 (.type "BaseException")=some true)
    (xve8:PySem.W.kitOne K (.ref ee8) (.type "ValueError")=some true)
    (xex8:PySem.W.exmOne K (.ref ee8) (.ref ee0)=some true)
    (xk8_1:PySem.W.kitOne K (.ref ee8) (.ref ee1)=some false)
    (xk8_2:PySem.W.kitOne K (.ref ee8) (.ref ee2)=some false)
    (xk8_3:PySem.W.kitOne K (.ref ee8) (.ref ee3)=some false)
    (xk8_4:PySem.W.kitOne K (.ref ee8) (.ref ee4)=some false)
    (xk8_5:PySem.W.kitOne K (.ref ee8) (.ref ee5)=some false)
    (xk8_6:PySem.W.kitOne K (.ref ee8) (.ref ee6)=some false)
    (xk8_7:PySem.W.kitOne K (.ref ee8) (.ref ee7)=some false)
    (xk8_8:PySem.W.kitOne K (.ref ee8) (.ref ee8)=some true)
    (xk8_9:PySem.W.kitOne K (.ref ee8) (.ref ee9)=some false)
    (xk8_10:PySem.W.kitOne K (.ref ee8) (.ref ee10)=some false)
    (xk8_11:PySem.W.kitOne K (.ref ee8) (.ref ee11)=some false)
    (xk8_12:PySem.W.kitOne K (.ref ee8) (.ref ee12)=some false)
    (xk8_13:PySem.W.kitOne K (.ref ee8) (.ref ee13)=some false)
    (xk8_14:PySem.W.kitOne K (.ref ee8) (.ref ee14)=some false)
    (xcls2:PySem.W.clsIn K ee2=some cdx2)
    (xga2:PySem.W.findIn K (.ref ee2) "__getattribute__" = some (some (.builtin "BaseException.__getattribute__")))
    (xgt2:PySem.W.findIn K (.ref ee2) "__getattr__" = some none)
    (xcl2:PySem.W.findIn K (.ref ee2) "__class__" = some (some (.builtin "object.__class__")))
    (xob2:PySem.W.mroIn K ee2 (.type "object")=some true)
    (xbe2:PySem.W.mroIn K ee2 (.type "BaseException")=some true)
    (xve2:PySem.W.kitOne K (.ref ee2) (.type "ValueError")=some true)
    (xex2:PySem.W.exmOne K (.ref ee2) (.ref ee0)=some true)
    (xk2_1:PySem.W.kitOne K (.ref ee2) (.ref ee1)=some false)
    (xk2_2:PySem.W.kitOne K (.ref ee2) (.ref ee2)=some true)
    (xk2_3:PySem.W.kitOne K (.ref ee2) (.ref ee3)=some false)
    (xk2_4:PySem.W.kitOne K (.ref ee2) (.ref ee4)=some false)
    (xk2_5:PySem.W.kitOne K (.ref ee2) (.ref ee5)=some false)
    (xk2_6:PySem.W.kitOne K (.ref ee2) (.ref ee6)=some false)
    (xk2_7:PySem.W.kitOne K (.ref ee2) (.ref ee7)=some false)
    (xk2_8:PySem.W.kitOne K (.ref ee2) (.ref ee8)=some false)
    (xk2_9:PySem.W.kitOne K (.ref ee2) (.ref ee9)=some false)
    (xk2_10:PySem.W.kitOne K (.ref ee2) (.ref ee10)=some false)
    (xk2_11:PySem.W.kitOne K (.ref ee2) (.ref ee11)=some false)
    (xk2_12:PySem.W.kitOne K (.ref ee2) (.ref ee12)=some false)
    (xk2_13:PySem.W.kitOne K (.ref ee2) (.ref ee13)=some false)
    (xk2_14:PySem.W.kitOne K (.ref ee2) (.ref ee14)=some false)
    (hL:noL K=true) :
    ∃ fd:FuncData,(∀ (s:Shared) (v:Value),BindsTo s fd ⟨[v],[]⟩ [("script",v)])/\∀ base:Heap,K.In base->base.Ns mainGlobals mg->FnOk l.prog w K mg base (CXD l.prog w) 13 fa fd ["script"] (spLawS K):=by
  have e:=hfa.symm.trans (PySem.W.mg_of X G a35)
  cases e
  have T:Txt mg:=⟨PySem.W.mg_none_of X G z_all,PySem.W.mg_none_of X G z_any,PySem.W.mg_none_of X G z_bool,PySem.W.mg_none_of X G z_int,PySem.W.mg_none_of X G z_isinstance,PySem.W.mg_none_of X G z_len,PySem.W.mg_none_of X G z_range,PySem.W.mg_none_of X G z_sorted,PySem.W.mg_none_of X G z_tuple,PySem.W.mg_none_of X G z_zip,⟨_,PySem.W.mg_of X G v_MOST_HOUSES_OF_BOOK⟩⟩
  have C_NoBook:∃ C,mg "NoBook" = some (.ref C)/\PySem.W.excIn K C bmVE "ValueError.__new__" = true:=⟨_,PySem.W.mg_of X G n_NoBook,x_NoBook⟩
  have C_NoHouse:∃ C,mg "NoHouse" = some (.ref C)/\PySem.W.excIn K C bmVE "ValueError.__new__" = true:=⟨_,PySem.W.mg_of X G n_NoHouse,x_NoHouse⟩
  have Nm:Nms mg (fun i=>[ee0,ee1,ee2,ee3,ee4,ee5,ee6,ee7,ee8,ee9,ee10,ee11,ee12,ee13,ee14].getD i 0):=⟨PySem.W.mg_of X G nn0,PySem.W.mg_of X G nn1,PySem.W.mg_of X G nn2,PySem.W.mg_of X G nn3,PySem.W.mg_of X G nn4,PySem.W.mg_of X G nn5,PySem.W.mg_of X G nn6,PySem.W.mg_of X G nn7,PySem.W.mg_of X G nn8,PySem.W.mg_of X G nn9,PySem.W.mg_of X G nn10,PySem.W.mg_of X G nn11,PySem.W.mg_of X G nn12,PySem.W.mg_of X G nn13,PySem.W.mg_of X G nn14,PySem.W.mg_none_of X G nzValueError,PySem.W.mg_none_of X G nzisinstance⟩
  have XC8:XCls K ee8:=⟨show (PySem.W.clsIn K ee8).isSome=true by rw [xcls8]; rfl,xga8,xgt8,xcl8,xgs,xtk,xob8,xbe8⟩
  have T8:TgtS K (fun i=>[ee0,ee1,ee2,ee3,ee4,ee5,ee6,ee7,ee8,ee9,ee10,ee11,ee12,ee13,ee14].getD i 0) 8:=⟨XC8,xve8,xex8,fun i h1 h2=>match i,h1,h2 with | 0,h,_=>absurd h (by omega) | 1,_,_=>xk8_1 | 2,_,_=>xk8_2 | 3,_,_=>xk8_3 | 4,_,_=>xk8_4 | 5,_,_=>xk8_5 | 6,_,_=>xk8_6 | 7,_,_=>xk8_7 | 8,_,_=>xk8_8 | 9,_,_=>xk8_9 | 10,_,_=>xk8_10 | 11,_,_=>xk8_11 | 12,_,_=>xk8_12 | 13,_,_=>xk8_13 | 14,_,_=>xk8_14 | _ + 15,_,h=>absurd h (by omega)⟩
  have XC2:XCls K ee2:=⟨show (PySem.W.clsIn K ee2).isSome=true by rw [xcls2]; rfl,xga2,xgt2,xcl2,xgs,xtk,xob2,xbe2⟩
  have T2:TgtS K (fun i=>[ee0,ee1,ee2,ee3,ee4,ee5,ee6,ee7,ee8,ee9,ee10,ee11,ee12,ee13,ee14].getD i 0) 2:=⟨XC2,xve2,xex2,fun i h1 h2=>match i,h1,h2 with | 0,h,_=>absurd h (by omega) | 1,_,_=>xk2_1 | 2,_,_=>xk2_2 | 3,_,_=>xk2_3 | 4,_,_=>xk2_4 | 5,_,_=>xk2_5 | 6,_,_=>xk2_6 | 7,_,_=>xk2_7 | 8,_,_=>xk2_8 | 9,_,_=>xk2_9 | 10,_,_=>xk2_10 | 11,_,_=>xk2_11 | 12,_,_=>xk2_12 | 13,_,_=>xk2_13 | 14,_,_=>xk2_14 | _ + 15,_,h=>absurd h (by omega)⟩
  have A1:=atS_mk (st:=s_is_whole) (ps:=["thing"]) X G a1 l1 c1 k1 fun _ _ _ _ _ _ us hl=>match us,hl with | [_],_=>rfl
  have A2:=atS_mk (st:=s_is_between) (ps:=["thing", "least", "most"]) X G a2 l2 c2 k2 fun _ _ _ _ _ _ us hl=>match us,hl with | [_,_,_],_=>rfl
  have A3:=atS_mk (st:=s_is_rising) (ps:=["things"]) X G a3 l3 c3 k3 fun _ _ _ _ _ _ us hl=>match us,hl with | [_],_=>rfl
  have A4:=atS_mk (st:=s_is_sized_tuple) (ps:=["thing", "least", "most"]) X G a4 l4 c4 k4 fun _ _ _ _ _ _ us hl=>match us,hl with | [_,_,_],_=>rfl
  have A5:=atS_mk (st:=s_are_rising_houses) (ps:=["n", "thing"]) X G a5 l5 c5 k5 fun _ _ _ _ _ _ us hl=>match us,hl with | [_,_],_=>rfl
  have A6:=atS_mk (st:=s_is_group) (ps:=["n", "thing"]) X G a6 l6 c6 k6 fun _ _ _ _ _ _ us hl=>match us,hl with | [_,_],_=>rfl
  have A7:=atS_mk (st:=s_are_sets) (ps:=["n", "thing"]) X G a7 l7 c7 k7 fun _ _ _ _ _ _ us hl=>match us,hl with | [_,_],_=>rfl
  have A8:=atS_mk (st:=s_is_book) (ps:=["thing"]) X G a8 l8 c8 k8 fun _ _ _ _ _ _ us hl=>match us,hl with | [_],_=>rfl
  have A9:=atS_mk (st:=s_need_book) (ps:=["book"]) X G a9 l9 c9 k9 fun _ _ _ _ _ _ us hl=>match us,hl with | [_],_=>rfl
  have A10:=atS_mk (st:=s_need_gone) (ps:=["book", "gone"]) X G a10 l10 c10 k10 fun _ _ _ _ _ _ us hl=>match us,hl with | [_,_],_=>rfl
  have A11:=atS_mk (st:=s_need_pool_of_book) (ps:=["book", "pool"]) X G a11 l11 c11 k11 fun _ _ _ _ _ _ us hl=>match us,hl with | [_,_],_=>rfl
  have A12:=atS_mk (st:=s_meets) (ps:=["houses", "one"]) X G a12 l12 c12 k12 fun _ _ _ _ _ _ us hl=>match us,hl with | [_,_],_=>rfl
  have A13:=atS_mk (st:=s_set_without) (ps:=["book", "houses"]) X G a13 l13 c13 k13 fun _ _ _ _ _ _ us hl=>match us,hl with | [_,_],_=>rfl
  have A14:=atS_mk (st:=s_set_within) (ps:=["book", "houses"]) X G a14 l14 c14 k14 fun _ _ _ _ _ _ us hl=>match us,hl with | [_,_],_=>rfl
  have A15:=atS_mk (st:=s_free_set) (ps:=["book", "gone"]) X G a15 l15 c15 k15 fun _ _ _ _ _ _ us hl=>match us,hl with | [_,_],_=>rfl
  have A16:=atS_mk (st:=s_unmet_set) (ps:=["book", "pool"]) X G a16 l16 c16 k16 fun _ _ _ _ _ _ us hl=>match us,hl with | [_,_],_=>rfl
  have A17:=atS_mk (st:=s_is_stuck) (ps:=["book", "gone"]) X G a17 l17 c17 k17 fun _ _ _ _ _ _ us hl=>match us,hl with | [_,_],_=>rfl
  have A18:=atS_mk (st:=s_is_blind) (ps:=["book", "gone", "one"]) X G a18 l18 c18 k18 fun _ _ _ _ _ _ us hl=>match us,hl with | [_,_,_],_=>rfl
  have A19:=atS_mk (st:=s_groups_of) (ps:=["n", "size"]) X G a19 l19 c19 k19 fun _ _ _ _ _ _ us hl=>match us,hl with | [_,_],_=>rfl
  have A20:=atS_mk (st:=s_paper_of) (ps:=["book", "f"]) X G a20 l20 c20 k20 fun _ _ _ _ _ _ us hl=>match us,hl with | [_,_],_=>rfl
  have A21:=atS_mk (st:=s_bears) (ps:=["book", "f"]) X G a21 l21 c21 k21 fun _ _ _ _ _ _ us hl=>match us,hl with | [_,_],_=>rfl
  have A22:=atS_mk (st:=s_most_borne) (ps:=["book"]) X G a22 l22 c22 k22 fun _ _ _ _ _ _ us hl=>match us,hl with | [_],_=>rfl
  have A23:=atS_mk (st:=s__law_e_stirred) (ps:=["cell", "place"]) X G a23 l23 c23 k23 fun _ _ _ _ _ _ us hl=>match us,hl with | [_,_],_=>rfl
  have A24:=atS_mk (st:=s__law_e_digit) (ps:=["tape", "many"]) X G a24 l24 c24 k24 fun _ _ _ _ _ _ us hl=>match us,hl with | [_,_],_=>rfl
  have A25:=atS_mk (st:=s__law_e_subset) (ps:=["tape", "n"]) X G a25 l25 c25 k25 fun _ _ _ _ _ _ us hl=>match us,hl with | [_,_],_=>rfl
  have A26:=atS_mk (st:=s__law_e_sized) (ps:=["n", "many"]) X G a26 l26 c26 k26 fun _ _ _ _ _ _ us hl=>match us,hl with | [_,_],_=>rfl
  have A27:=atS_mk (st:=s__law_e_book) (ps:=["tape", "most"]) X G a27 l27 c27 k27 fun _ _ _ _ _ _ us hl=>match us,hl with | [_,_],_=>rfl
  have A28:=atS_mk (st:=s__law_e_hit) (ps:=["one", "some"]) X G a28 l28 c28 k28 fun _ _ _ _ _ _ us hl=>match us,hl with | [_,_],_=>rfl
  have A29:=atS_mk (st:=s__law_e_within) (ps:=["one", "some"]) X G a29 l29 c29 k29 fun _ _ _ _ _ _ us hl=>match us,hl with | [_,_],_=>rfl
  have A30:=atS_mk (st:=s__law_e_door) (ps:=["way", "book", "some"]) X G a30 l30 c30 k30 fun _ _ _ _ _ _ us hl=>match us,hl with | [_,_,_],_=>rfl
  have A31:=atS_mk (st:=s__law_e_kind) (ps:=["caught"]) X G a31 l31 c31 k31 fun _ _ _ _ _ _ us hl=>match us,hl with | [_],_=>rfl
  have A32:=atS_mk (st:=s__law_e_word) (ps:=["way", "book", "some"]) X G a32 l32 c32 k32 fun _ _ _ _ _ _ us hl=>match us,hl with | [_,_,_],_=>rfl
  have A33:=atS_mk (st:=s__law_e_looks_right) (ps:=["book", "gone", "one"]) X G a33 l33 c33 k33 fun _ _ _ _ _ _ us hl=>match us,hl with | [_,_,_],_=>rfl
  have A34:=atS_mk (st:=s__law_e_refusals_right) (ps:=["book", "some"]) X G a34 l34 c34 k34 fun _ _ _ _ _ _ us hl=>match us,hl with | [_,_],_=>rfl
  have A35:=atS_mk (st:=s_law) (ps:=["script"]) X G a35 l35 c35 k35 fun _ _ _ _ _ _ us hl=>match us,hl with | [_],_=>rfl
  refine ⟨PySem.W.fnOf "law" "law" (defArgs s_law) (defBody s_law) (Q7 s_law) .none kV35 dc35 pm35 an35 cd35 ct35,fun s v=>.of_eq rfl,fun base kb nb=>?_⟩
  have D_is_whole:=A1.def (P:=l.prog) (w:=w) (base:=base) rfl (ok_is_whole A1.F T   )
  have D_is_between:=A2.def (P:=l.prog) (w:=w) (base:=base) rfl (ok_is_between A2.F T   D_is_whole)
  have D_is_rising:=A3.def (P:=l.prog) (w:=w) (base:=base) rfl (ok_is_rising A3.F T   )
  have D_is_sized_tuple:=A4.def (P:=l.prog) (w:=w) (base:=base) rfl (ok_is_sized_tuple A4.F T   )
  have D_are_rising_houses:=A5.def (P:=l.prog) (w:=w) (base:=base) rfl (ok_are_rising_houses A5.F T   D_is_between D_is_rising)
  have D_is_group:=A6.def (P:=l.prog) (w:=w) (base:=base) rfl (ok_is_group A6.F T   D_are_rising_houses)
  have D_are_sets:=A7.def (P:=l.prog) (w:=w) (base:=base) rfl (ok_are_sets A7.F T   D_is_group D_is_rising)
  have D_is_book:=A8.def (P:=l.prog) (w:=w) (base:=base) rfl (ok_is_book A8.F T   D_is_sized_tuple D_is_between D_are_sets)
  have D_need_book:=A9.def (P:=l.prog) (w:=w) (base:=base) rfl (ok_need_book A9.F T  C_NoBook D_is_book)
  have D_need_gone:=A10.def (P:=l.prog) (w:=w) (base:=base) rfl (ok_need_gone A10.F T  C_NoHouse D_need_book D_are_rising_houses)
  have D_need_pool_of_book:=A11.def (P:=l.prog) (w:=w) (base:=base) rfl (ok_need_pool_of_book A11.F T  C_NoHouse D_need_book D_is_group)
  have D_meets:=A12.def (P:=l.prog) (w:=w) (base:=base) rfl (ok_meets A12.F T   )
  have D_set_without:=A13.def (P:=l.prog) (w:=w) (base:=base) rfl (ok_set_without A13.F T   D_meets)
  have D_set_within:=A14.def (P:=l.prog) (w:=w) (base:=base) rfl (ok_set_within A14.F T   )
  have D_free_set:=A15.def (P:=l.prog) (w:=w) (base:=base) rfl (ok_free_set A15.F T   D_need_gone D_set_without)
  have D_unmet_set:=A16.def (P:=l.prog) (w:=w) (base:=base) rfl (ok_unmet_set A16.F T   D_need_pool_of_book D_set_without)
  have D_is_stuck:=A17.def (P:=l.prog) (w:=w) (base:=base) rfl (ok_is_stuck A17.F T   D_need_gone D_set_without)
  have D_is_blind:=A18.def (P:=l.prog) (w:=w) (base:=base) rfl (ok_is_blind A18.F T   D_need_gone)
  have D_groups_of:=A19.def (P:=l.prog) (w:=w) (base:=base) rfl (ok_groups_of A19.F T   )
  have D_paper_of:=A20.def (P:=l.prog) (w:=w) (base:=base) rfl (ok_paper_of A20.F T   D_groups_of D_set_without D_set_within)
  have D_bears:=A21.def (P:=l.prog) (w:=w) (base:=base) rfl (ok_bears A21.F T   D_need_book D_paper_of)
  have D_most_borne:=A22.def (P:=l.prog) (w:=w) (base:=base) rfl (ok_most_borne A22.F T   D_need_book D_paper_of)
  have D__law_e_stirred:=A23.def (P:=l.prog) (w:=w) (base:=base) rfl (ok__law_e_stirred A23.F T   )
  have D__law_e_digit:=A24.def (P:=l.prog) (w:=w) (base:=base) rfl (ok__law_e_digit A24.F T   D__law_e_stirred)
  have D__law_e_subset:=A25.def (P:=l.prog) (w:=w) (base:=base) rfl (ok__law_e_subset A25.F T   D__law_e_digit)
  have D__law_e_sized:=A26.def (P:=l.prog) (w:=w) (base:=base) rfl (ok__law_e_sized A26.F T   )
  have D__law_e_book:=A27.def (P:=l.prog) (w:=w) (base:=base) rfl (ok__law_e_book A27.F T   D__law_e_digit D__law_e_sized D__law_e_subset)
  have D__law_e_hit:=A28.def (P:=l.prog) (w:=w) (base:=base) rfl (ok__law_e_hit A28.F T   )
  have D__law_e_within:=A29.def (P:=l.prog) (w:=w) (base:=base) rfl (ok__law_e_within A29.F T   )
  have D__law_e_door:=A30.def (P:=l.prog) (w:=w) (base:=base) rfl (ok__law_e_door A30.F T   D_free_set D_unmet_set D_is_stuck D_is_blind D_bears D_most_borne)
  have D__law_e_kind:=A31.defX (P:=l.prog) (w:=w) (base:=base) (ok__law_e_kind A31.F T Nm T8 T2  )
  have D__law_e_word:=A32.def (P:=l.prog) (w:=w) (base:=base) rfl (ok__law_e_word A32.F T Nm T8 T2  D__law_e_door D__law_e_kind)
  have D__law_e_looks_right:=A33.def (P:=l.prog) (w:=w) (base:=base) rfl (ok__law_e_looks_right A33.F T   D__law_e_hit D__law_e_within D_is_stuck D_is_blind)
  have D__law_e_refusals_right:=A34.def (P:=l.prog) (w:=w) (base:=base) rfl (ok__law_e_refusals_right A34.F T   D__law_e_word)
  exact law_imp hL (ok_law A35.F T   D__law_e_book D__law_e_digit D__law_e_subset D__law_e_looks_right D__law_e_refusals_right) law_all
end Lw
theorem PySem.W.Fast.tw15435287765566990486 : True := trivial
theorem PySem.W.Fast.tw9096277304183857513 : True := trivial
theorem PySem.W.Fast.tw9239279322478514585 : True := trivial
theorem PySem.W.Fast.tw14723988314410019782 : True := trivial
theorem PySem.W.Fast.tw1745199519425852026 : True := trivial
theorem PySem.W.Fast.tw12828072336854052591 : True := trivial
theorem PySem.W.Fast.tw16053750583943363258 : True := trivial
theorem PySem.W.Fast.tw12102225566052261138 : True := trivial
theorem PySem.W.Fast.tw14452289548492006592 : True := trivial
theorem PySem.W.Fast.te13840272426829212767 : True := trivial
open PySem PySem.W PyProof.Rows
set_option maxRecDepth 100000 in
set_option maxHeartbeats 0 in
theorem PySem.Challenge.cw_lendwharf_k56_books_refused_and_papers_l_holds : PySem.Challenge.rw_lendwharf_k56_books_refused_and_papers_l.Holds := by
  w_on; o_law; k_head; (case hw=>w_witness2)
  k_fill
  refine Sm.walkS (l:=PySem.Challenge.rw_lendwharf_k56_books_refused_and_papers_l) (k:=13) rfl ⟨rfl,by decide,by decide⟩ rfl (fun w h Y=>PySem.W.kIn_of Y) ?F
  case F=>
    intro w mg fa h KX G hmg
    refine' Lw.all_mk KX G hmg ?a1 ?l1 ?c1 ?k1 ?a2 ?l2 ?c2 ?k2 ?a3 ?l3 ?c3 ?k3 ?a4 ?l4 ?c4 ?k4 ?a5 ?l5 ?c5 ?k5 ?a6 ?l6 ?c6 ?k6 ?a7 ?l7 ?c7 ?k7 ?a8 ?l8 ?c8 ?k8 ?a9 ?l9 ?c9 ?k9 ?a10 ?l10 ?c10 ?k10 ?a11 ?l11 ?c11 ?k11 ?a12 ?l12 ?c12 ?k12 ?a13 ?l13 ?c13 ?k13 ?a14 ?l14 ?c14 ?k14 ?a15 ?l15 ?c15 ?k15 ?a16 ?l16 ?c16 ?k16 ?a17 ?l17 ?c17 ?k17 ?a18 ?l18 ?c18 ?k18 ?a19 ?l19 ?c19 ?k19 ?a20 ?l20 ?c20 ?k20 ?a21 ?l21 ?c21 ?k21 ?a22 ?l22 ?c22 ?k22 ?a23 ?l23 ?c23 ?k23 ?a24 ?l24 ?c24 ?k24 ?a25 ?l25 ?c25 ?k25 ?a26 ?l26 ?c26 ?k26 ?a27 ?l27 ?c27 ?k27 ?a28 ?l28 ?c28 ?k28 ?a29 ?l29 ?c29 ?k29 ?a30 ?l30 ?c30 ?k30 ?a31 ?l31 ?c31 ?k31 ?a32 ?l32 ?c32 ?k32 ?a33 ?l33 ?c33 ?k33 ?a34 ?l34 ?c34 ?k34 ?a35 ?l35 ?c35 ?k35 ?z_all ?z_any ?z_bool ?z_int ?z_isinstance ?z_len ?z_range ?z_sorted ?z_tuple ?z_zip ?v_MOST_HOUSES_OF_BOOK ?n_NoBook ?x_NoBook ?n_NoHouse ?x_NoHouse ?nn0 ?nn1 ?nn2 ?nn3 ?nn4 ?nn5 ?nn6 ?nn7 ?nn8 ?nn9 ?nn10 ?nn11 ?nn12 ?nn13 ?nn14 ?nzValueError ?nzisinstance ?xgs ?xtk ?xcls8 ?xga8 ?xgt8 ?xcl8 ?xob8 ?xbe8 ?xve8 ?xex8 ?xk8_1 ?xk8_2 ?xk8_3 ?xk8_4 ?xk8_5 ?xk8_6 ?xk8_7 ?xk8_8 ?xk8_9 ?xk8_10 ?xk8_11 ?xk8_12 ?xk8_13 ?xk8_14 ?xcls2 ?xga2 ?xgt2 ?xcl2 ?xob2 ?xbe2 ?xve2 ?xex2 ?xk2_1 ?xk2_2 ?xk2_3 ?xk2_4 ?xk2_5 ?xk2_6 ?xk2_7 ?xk2_8 ?xk2_9 ?xk2_10 ?xk2_11 ?xk2_12 ?xk2_13 ?xk2_14 ?hL
    (case a1=>k_is)
    (case l1=>k_is)
    (case c1=>k_is)
    (case k1=>k_is)
    (case a2=>k_is)
    (case l2=>k_is)
    (case c2=>k_is)
    (case k2=>k_is)
    (case a3=>k_is)
    (case l3=>k_is)
    (case c3=>k_is)
    (case k3=>k_is)
    (case a4=>k_is)
    (case l4=>k_is)
    (case c4=>k_is)
    (case k4=>k_is)
    (case a5=>k_is)
    (case l5=>k_is)
    (case c5=>k_is)
    (case k5=>k_is)
    (case a6=>k_is)
    (case l6=>k_is)
    (case c6=>k_is)
    (case k6=>k_is)
    (case a7=>k_is)
    (case l7=>k_is)
    (case c7=>k_is)
    (case k7=>k_is)
    (case a8=>k_is)
    (case l8=>k_is)
    (case c8=>k_is)
    (case k8=>k_is)
    (case a9=>k_is)
    (case l9=>k_is)
    (case c9=>k_is)
    (case k9=>k_is)
    (case a10=>k_is)
    (case l10=>k_is)
    (case c10=>k_is)
    (case k10=>k_is)
    (case a11=>k_is)
    (case l11=>k_is)
    (case c11=>k_is)
    (case k11=>k_is)
    (case a12=>k_is)
    (case l12=>k_is)
    (case c12=>k_is)
    (case k12=>k_is)
    (case a13=>k_is)
    (case l13=>k_is)
    (case c13=>k_is)
    (case k13=>k_is)
    (case a14=>k_is)
    (case l14=>k_is)
    (case c14=>k_is)
    (case k14=>k_is)
    (case a15=>k_is)
    (case l15=>k_is)
    (case c15=>k_is)
    (case k15=>k_is)
    (case a16=>k_is)
    (case l16=>k_is)
    (case c16=>k_is)
    (case k16=>k_is)
    (case a17=>k_is)
    (case l17=>k_is)
    (case c17=>k_is)
    (case k17=>k_is)
    (case a18=>k_is)
    (case l18=>k_is)
    (case c18=>k_is)
    (case k18=>k_is)
    (case a19=>k_is)
    (case l19=>k_is)
    (case c19=>k_is)
    (case k19=>k_is)
    (case a20=>k_is)
    (case l20=>k_is)
    (case c20=>k_is)
    (case k20=>k_is)
    (case a21=>k_is)
    (case l21=>k_is)
    (case c21=>k_is)
    (case k21=>k_is)
    (case a22=>k_is)
    (case l22=>k_is)
    (case c22=>k_is)
    (case k22=>k_is)
    (case a23=>k_is)
    (case l23=>k_is)
    (case c23=>k_is)
    (case k23=>k_is)
    (case a24=>k_is)
    (case l24=>k_is)
    (case c24=>k_is)
    (case k24=>k_is)
    (case a25=>k_is)
    (case l25=>k_is)
    (case c25=>k_is)
    (case k25=>k_is)
    (case a26=>k_is)
    (case l26=>k_is)
    (case c26=>k_is)
    (case k26=>k_is)
    (case a27=>k_is)
    (case l27=>k_is)
    (case c27=>k_is)
    (case k27=>k_is)
    (case a28=>k_is)
    (case l28=>k_is)
    (case c28=>k_is)
    (case k28=>k_is)
    (case a29=>k_is)
    (case l29=>k_is)
    (case c29=>k_is)
    (case k29=>k_is)
    (case a30=>k_is)
    (case l30=>k_is)
    (case c30=>k_is)
    (case k30=>k_is)
    (case a31=>k_is)
    (case l31=>k_is)
    (case c31=>k_is)
    (case k31=>k_is)
    (case a32=>k_is)
    (case l32=>k_is)
    (case c32=>k_is)
    (case k32=>k_is)
    (case a33=>k_is)
    (case l33=>k_is)
    (case c33=>k_is)
    (case k33=>k_is)
    (case a34=>k_is)
    (case l34=>k_is)
    (case c34=>k_is)
    (case k34=>k_is)
    (case a35=>k_is)
    (case l35=>k_is)
    (case c35=>k_is)
    (case k35=>k_is)
    (case z_all=>k_is)
    (case z_any=>k_is)
    (case z_bool=>k_is)
    (case z_int=>k_is)
    (case z_isinstance=>k_is)
    (case z_len=>k_is)
    (case z_range=>k_is)
    (case z_sorted=>k_is)
    (case z_tuple=>k_is)
    (case z_zip=>k_is)
    (case v_MOST_HOUSES_OF_BOOK=>k_is)
    (case n_NoBook=>k_is)
    (case x_NoBook=>k_exc)
    (case n_NoHouse=>k_is)
    (case x_NoHouse=>k_exc)
    (case nn0=>k_is)
    (case nn1=>k_is)
    (case nn2=>k_is)
    (case nn3=>k_is)
    (case nn4=>k_is)
    (case nn5=>k_is)
    (case nn6=>k_is)
    (case nn7=>k_is)
    (case nn8=>k_is)
    (case nn9=>k_is)
    (case nn10=>k_is)
    (case nn11=>k_is)
    (case nn12=>k_is)
    (case nn13=>k_is)
    (case nn14=>k_is)
    (case nzValueError=>k_is)
    (case nzisinstance=>k_is)
    (case xgs=>k_is)
    (case xtk=>k_is)
    (case xcls8=>k_is)
    (case xga8=>k_is)
    (case xgt8=>k_is)
    (case xcl8=>k_is)
    (case xob8=>k_is)
    (case xbe8=>k_is)
    (case xve8=>kit_is)
    (case xex8=>kts_exm)
    (case xk8_1=>kit_is)
    (case xk8_2=>kit_is)
    (case xk8_3=>kit_is)
    (case xk8_4=>kit_is)
    (case xk8_5=>kit_is)
    (case xk8_6=>kit_is)
    (case xk8_7=>kit_is)
    (case xk8_8=>kit_is)
    (case xk8_9=>kit_is)
    (case xk8_10=>kit_is)
    (case xk8_11=>kit_is)
    (case xk8_12=>kit_is)
    (case xk8_13=>kit_is)
    (case xk8_14=>kit_is)
    (case xcls2=>k_is)
    (case xga2=>k_is)
    (case xgt2=>k_is)
    (case xcl2=>k_is)
    (case xob2=>k_is)
    (case xbe2=>k_is)
    (case xve2=>kit_is)
    (case xex2=>kts_exm)
    (case xk2_1=>kit_is)
    (case xk2_2=>kit_is)
    (case xk2_3=>kit_is)
    (case xk2_4=>kit_is)
    (case xk2_5=>kit_is)
    (case xk2_6=>kit_is)
    (case xk2_7=>kit_is)
    (case xk2_8=>kit_is)
    (case xk2_9=>kit_is)
    (case xk2_10=>kit_is)
    (case xk2_11=>kit_is)
    (case xk2_12=>kit_is)
    (case xk2_13=>kit_is)
    (case xk2_14=>kit_is)
    (case hL=>rfl)
