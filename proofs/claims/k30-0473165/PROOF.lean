import PyProof.Rows.All
import Wide.All
import OpenK.AllK
import Wide.FinOn
import Lean
import PyProof.EqAt
import PyProof.EqKinds
import PyProof.TupleCall
import PyProof.ZipIter
import PyProof.Draws
import PyProof.SumAny
import PyProof.EnumMake
import PyProof.WalkInts
import PyProof.ExcArgsOwn
import PyProof.ExcAttrAll.ValueError
import PyProof.NsDelKeeps
import KE.KTryMore
import OpenK.KOwn
import PyProof.ListMulRoad
import PyProof.FactsAll.tuple_2
import PyProof.NeKinds
import PyProof.Rows.RuleIs
import PyProof.ExcInit
import PyProof.ExcClass3
import OpenK.KCls
import PyProof.InstStoreFacts
import OpenK.KMake
import PyProof.DictRoads
import PyProof.Rows.CountFlat
import PyProof.ListRange
import PyProof.Rows.SetFrom
import PyProof.CollectStr
import PyProof.Rows.TupMore
import PySem.Challenge.RW_lendwharf_k30_views_refused
set_option Elab.async false
set_option linter.all false
set_option maxRecDepth 100000
set_option maxHeartbeats 4000000
noncomputable section
namespace L2
open PySem PySem.Spec PyProof.Rows
abbrev Key:=Sum Int Str
def keyIs:Key->Value->Bool
  | .inl k,v=>Value.isInt k v
  | .inr x,v=>Value.isStrOf x v
def keyH (w:World):Key->Int
  | .inl k=>hashInt k
  | .inr x=>hashStr w x
theorem keyIs_shape:∀ {k:Key} {v:Value},keyIs k v=true->(∃ i t,k=Sum.inl i/\v=Value.int i t)\/(∃ x t,k=Sum.inr x/\v=Value.str x t)
  | .inl i,v,h=>by
    obtain ⟨t,e⟩:=Value.isInt_shape (k:=i) (v:=v) h
    exact .inl ⟨i,t,rfl,e⟩
  | .inr x,v,h=>by
    obtain ⟨t,e⟩:=Value.isStrOf_shape (x:=x) (v:=v) h
    exact .inr ⟨x,t,rfl,e⟩
theorem key_ll (a b:Int):decide ((Sum.inl a:Key)=Sum.inl b)=(a == b):=by
  by_cases e:a=b
  · subst e; simp
  · have h:¬ (Sum.inl a:Key)=Sum.inl b:=fun q=>e (Sum.inl.inj q)
    rw [decide_eq_false h]
    exact (beq_eq_false_iff_ne.mpr e).symm
theorem key_rr (a b:Str):decide ((Sum.inr a:Key)=Sum.inr b)=decide (a=b):=by
  by_cases e:a=b
  · subst e; simp
  · have h:¬ (Sum.inr a:Key)=Sum.inr b:=fun q=>e (Sum.inr.inj q)
    rw [decide_eq_false h,decide_eq_false e]
theorem key_lr (a:Int) (b:Str):decide ((Sum.inl a:Key)=Sum.inr b)=false:=decide_eq_false (fun q=>nomatch q)
theorem key_rl (a:Str) (b:Int):decide ((Sum.inr a:Key)=Sum.inl b)=false:=decide_eq_false (fun q=>nomatch q)
def mixKind (prog:Program) (w:World):PySem.KeyKind prog w Key where
  is:=keyIs
  hash:=keyH w
  inj:=fun v a b ha hb=>by
    rcases keyIs_shape ha with ⟨i,t,rfl,rfl⟩ | ⟨x,t,rfl,rfl⟩
    · rcases keyIs_shape hb with ⟨j,u,rfl,e⟩ | ⟨y,u,rfl,e⟩
      · injection e with e1 _; rw [e1]
      · exact nomatch e
    · rcases keyIs_shape hb with ⟨j,u,rfl,e⟩ | ⟨y,u,rfl,e⟩
      · exact nomatch e
      · injection e with e1 _; rw [e1]
  byValue:=fun k v h=>by
    rcases keyIs_shape h with ⟨i,t,rfl,rfl⟩ | ⟨x,t,rfl,rfl⟩ <;> rfl
  pyHash:=fun hv h=>by
    rcases keyIs_shape hv with ⟨i,t,rfl,rfl⟩ | ⟨x,t,rfl,rfl⟩
    · exact wpAny_pyHash_int h
    · exact wpAny_pyHash_str h
  eqBool:=fun hu hv h=>by
    rcases keyIs_shape hu with ⟨i,t,rfl,rfl⟩ | ⟨x,t,rfl,rfl⟩
    · rcases keyIs_shape hv with ⟨j,u,rfl,rfl⟩ | ⟨y,u,rfl,rfl⟩
      · rw [key_ll] at h; exact wpAny_eqBool_int h
      · rw [key_lr] at h; exact SeqAt.EqAt.int_str i t y u _ _ _ _ h
    · rcases keyIs_shape hv with ⟨j,u,rfl,rfl⟩ | ⟨y,u,rfl,rfl⟩
      · rw [key_rl] at h; exact SeqAt.EqAt.str_int x t j u _ _ _ _ h
      · rw [key_rr] at h; exact wpAny_eqBool_str h
  «strs»:=fun k x t v h=>by
    rcases keyIs_shape h with ⟨i,u,rfl,e⟩ | ⟨y,u,rfl,e⟩
    · exact nomatch e
    · injection e with e1 _
      subst e1
      cases v <;> rfl
end L2
namespace L2
open PySem PySem.Spec PyProof.Rows
inductive V where
  | non | bl (b:Bool) | int (i:Int) | str (x:Str) | byt (b:Array UInt8) | flt (b:UInt64) | ref (a:Addr) | ty (n:String)
  deriving DecidableEq
def RelV:V->Value->Prop
  | .non,u=>u=Value.none
  | .bl b,u=>u=Value.bool b
  | .int i,u=>∃ t,u=Value.int i t
  | .str x,u=>∃ t,u=Value.str x t
  | .byt b,u=>∃ t,u=Value.bytes b t
  | .flt b,u=>∃ t,u=Value.float b t
  | .ref a,u=>u=Value.ref a
  | .ty n,u=>u=Value.type n
abbrev Vals:List V->List Value->Prop:=Paired RelV
theorem Vals.length {xs:List V} {us:List Value} (r:Vals xs us):xs.length=us.length:=Paired.length r
theorem Vals.get:∀ {xs:List V} {us:List Value} {i:Nat} {x:V},Vals xs us->xs[i]?=some x->∃ u,us[i]?=some u/\RelV x u
  | _,_,_,_,.nil,e=>by simp at e
  | _,_,0,_,.cons r _,e=>by simp at e; subst e; exact ⟨_,rfl,r⟩
  | _,_,i + 1,x,.cons _ t,e=>by
    obtain ⟨u,h1,h2⟩:=Vals.get (i:=i) (x:=x) t (by simpa using e)
    exact ⟨u,by simpa using h1,h2⟩
theorem Vals.set {x:V} {u:Value} (r:RelV x u):∀ {xs:List V} {us:List Value} (i:Nat),Vals xs us->Vals (xs.set i x) (us.set i u)
  | _,_,_,.nil=>.nil
  | _,_,0,.cons _ t=>.cons r t
  | _,_,i + 1,.cons q t=>.cons q (Vals.set r i t)
theorem Vals.append:∀ {xs ys:List V} {us ws:List Value},Vals xs us->Vals ys ws->Vals (xs ++ ys) (us ++ ws)
  | _,_,_,_,.nil,s=>s
  | _,_,_,_,.cons r t,s=>.cons r (Vals.append t s)
theorem Vals.take:∀ {xs:List V} {us:List Value} (n:Nat),Vals xs us->Vals (xs.take n) (us.take n)
  | _,_,0,_=>.nil
  | _,_,_ + 1,.nil=>.nil
  | _,_,n + 1,.cons r t=>.cons r (Vals.take n t)
theorem Vals.drop:∀ {xs:List V} {us:List Value} (n:Nat),Vals xs us->Vals (xs.drop n) (us.drop n)
  | _,_,0,r=>r
  | _,_,_ + 1,.nil=>.nil
  | _,_,n + 1,.cons _ t=>Vals.drop n t
def RelO:Option V->Option Value->Prop
  | some v,some u=>RelV v u
  | none,none=>True
  | _,_=>False
def KV {κ:Type}:List (κ × V)->List (κ × Value)->Prop:=Paired fun (p:κ × V) (q:κ × Value)=>p.1=q.1/\RelV p.2 q.2
def kV:Key->V
  | .inl i=>.int i
  | .inr x=>.str x
inductive HO where
  | lst (xs:List V)
  | tup (xs:List V)
  | dK (kvs:List (Key × V)) | dT (kvs:List (List Key × V))
  | set (S:Int->Bool) (n:Nat)
  | ins (C dx:Addr) (fs:List (Str × V))
  | own (x:Addr)
  | xd (fs:List (Str × V))
  | met (f x:Addr)
  | rng (lo hi:Int)
  | frz (o:Obj) (u:HO)
  | tbl (ps:Array Value)
  | ext (φ:Heap->Prop)
abbrev Hp:=Addr->Option HO
def upd (H:Hp) (a:Addr) (o:HO):Hp:=fun b=>if b=a then some o else H b
theorem upd_same {H:Hp} {a:Addr} {o:HO}:upd H a o a=some o:=by unfold upd; rw [if_pos rfl]
theorem upd_ne {H:Hp} {a b:Addr} {o:HO} (h:b ≠ a):upd H a o b=H b:=by unfold upd; rw [if_neg h]
theorem ne_of_none {H:Hp} {a b:Addr} {o:HO} (h:H a=some o) (h':H b=none):a ≠ b:=by
  intro e; subst e; rw [h] at h'; cases h'
section
variable (P:Program) (w:World)
def ObjOk (H:Hp) (h:Heap) (a:Addr):HO->Prop
  | .lst xs=>xs.length<=sizeLine/\∃ (its:List Value) (n:Nat),Vals xs its/\h.get? a=some { cls:=.type "list",data:=.seq its.toArray n }
  | .tup xs=>xs.length<=sizeLine/\∃ its:List Value,Vals xs its/\IsTup h a its.toArray
  | .dK kvs=>kvs.length<=sizeLine/\(a == sysModules)=false/\∃ vs,KV kvs vs/\h.DictOf (mixKind P w) a vs
  | .dT kvs=>kvs.length<=sizeLine/\(a == sysModules)=false/\∃ xs:List (List Key × Addr × Value),
      Paired (fun (p:List Key × V) (q:List Key × Addr × Value)=>p.1=q.1/\H q.2.1=some (.tup (p.1.map kV))/\RelV p.2 q.2.2) kvs xs /\
      ∃ o es ep,h.get? a=some o/\o.ExactDict/\o.data=.dict es ep/\es.toList=xs.map (entryOfKey (tupleKind (mixKind P w)))/\(xs.map (·.1)).Nodup
  | .set S n=>h.SetOf (intKind P w) a S n
  | .ins C dx fs=>H dx=some (.own a)/\fs.length<=1000/\dx ≠ a/\h.get? a=some (PySem.W.instObj C dx) /\
      ∃ mA,h.Ns1 dx mA/\(∀ f,RelO (fs.lookup f) (mA f))/\PySem.Within mA (fs.map (·.1))
  | .own _=>∃ o,h.get? a=some o
  | .xd fs=>∃ mA,h.Ns1 a mA/\∀ f,RelO (fs.lookup f) (mA f)
  | .rng lo hi=>∃ t u v,h.get? a=some { cls:=.type "range",data:=.fields #[.int lo t,.int hi u,.int 1 v] }
  | .frz o u=>h.get? a=some o/\ObjOk H h a u
  | .tbl ps=>h.get? a=some { cls:=.none,data:=.fields ps }
  | .met f x=>h.get? a=some (PySem.W.methodObj (.ref f) (.ref x))
  | .ext φ=>φ h/\(∃ o,h.get? a=some o)/\∀ h1 h2:Heap,φ h1->(∀ o,h1.get? a=some o->h2.get? a=some o)->φ h2
def HOk (H:Hp) (h:Heap):Prop:=∀ a o,H a=some o->ObjOk P w H h a o
end
section
variable {P:Program} {w:World} {H H':Hp} {h h':Heap} {a:Addr} {o:HO}
theorem ObjOk.lt (x:ObjOk P w H h a o):a < h.objs.size:=by
  cases o with
  | lst xs=>obtain ⟨_,_,_,_,e⟩:=x; exact Heap.lt_size e
  | tup xs=>obtain ⟨_,_,_,p⟩:=x; exact p.lt
  | dK kvs=>obtain ⟨_,_,_,_,o,_,_,e,_⟩:=x; exact Heap.lt_size e
  | dT kvs=>obtain ⟨_,_,_,_,o,_,_,e,_⟩:=x; exact Heap.lt_size e
  | set S n=>obtain ⟨o,_,_,_,e,_⟩:=x; exact Heap.lt_size e
  | ins C dx fs=>obtain ⟨_,_,_,e,_⟩:=x; exact Heap.lt_size e
  | own y=>obtain ⟨_,e⟩:=x; exact Heap.lt_size e
  | xd fs=>obtain ⟨_,⟨_,_,_,e,_⟩,_⟩:=x; exact Heap.lt_size e
  | rng lo hi=>obtain ⟨_,_,_,e⟩:=x; exact Heap.lt_size e
  | frz ob u=>obtain ⟨e,_⟩:=x; exact Heap.lt_size e
  | tbl ps=>exact Heap.lt_size (show h.get? a=some _ from x)
  | met f y=>exact Heap.lt_size (show h.get? a=some _ from x)
  | ext φ=>obtain ⟨_,⟨_,e⟩,_⟩:=x; exact Heap.lt_size e
theorem Paired.mapP {α β:Type} {F G:α->β->Prop}:∀ {l₁:List α} {l₂:List β},Paired F l₁ l₂->(∀ a b,F a b->G a b)->Paired G l₁ l₂
  | _,_,.nil,_=>.nil
  | _,_,.cons r t,f=>.cons (f _ _ r) (Paired.mapP t f)
theorem ObjOk.stay (x:ObjOk P w H h a o) (k:∀ b u,(b=a\/H b=some (.own a))->h.get? b=some u->h'.get? b=some u)
    (ho:∀ b,H b=some (.own a)->H' b=some (.own a)) (ht:∀ b xs,H b=some (.tup xs)->H' b=some (.tup xs)):ObjOk P w H' h' a o:=by
  induction o with
  | lst xs=>obtain ⟨z,its,n,r,e⟩:=x; exact ⟨z,its,n,r,k _ _ (.inl rfl) e⟩
  | tup xs=>obtain ⟨z,its,r,ob,e,c⟩:=x; exact ⟨z,its,r,ob,k _ _ (.inl rfl) e,c⟩
  | dK kvs=>obtain ⟨z,y,vs,r,ob,es,ep,e,c⟩:=x; exact ⟨z,y,vs,r,ob,es,ep,k _ _ (.inl rfl) e,c⟩
  | dT kvs=>
    obtain ⟨z,y,xs,r,ob,es,ep,e,c⟩:=x
    exact ⟨z,y,xs,Paired.mapP r fun p q z=>⟨z.1,ht _ _ z.2.1,z.2.2⟩,ob,es,ep,k _ _ (.inl rfl) e,c⟩
  | set S n=>obtain ⟨ob,es,ep,t,e,c⟩:=x; exact ⟨ob,es,ep,t,k _ _ (.inl rfl) e,c⟩
  | ins C dx fs=>
    obtain ⟨d,z,ne,e,mA,⟨od,es,ep,e2,c⟩,r⟩:=x
    exact ⟨ho _ d,z,ne,k _ _ (.inl rfl) e,mA,⟨od,es,ep,k _ _ (.inr d) e2,c⟩,r⟩
  | own y=>obtain ⟨ob,e⟩:=x; exact ⟨ob,k _ _ (.inl rfl) e⟩
  | xd fs=>obtain ⟨mA,⟨od,es,ep,e,c⟩,r⟩:=x; exact ⟨mA,⟨od,es,ep,k _ _ (.inl rfl) e,c⟩,r⟩
  | rng lo hi=>obtain ⟨t,u,v,e⟩:=x; exact ⟨t,u,v,k _ _ (.inl rfl) e⟩
  | frz ob u ih=>obtain ⟨e,q⟩:=x; exact ⟨k _ _ (.inl rfl) e,ih q⟩
  | tbl ps=>
    have e:h.get? a=some { cls:=.none,data:=.fields ps }:=x
    show h'.get? a=some { cls:=.none,data:=.fields ps }
    exact k a _ (.inl rfl) e
  | met f y=>
    have e:h.get? a=some (PySem.W.methodObj (.ref f) (.ref y)):=x
    show h'.get? a=some (PySem.W.methodObj (.ref f) (.ref y))
    exact k a _ (.inl rfl) e
  | ext φ=>obtain ⟨p,⟨o,e⟩,st⟩:=x; exact ⟨st _ _ p fun o q=>k _ _ (.inl rfl) q,⟨o,k _ _ (.inl rfl) e⟩,st⟩
theorem HOk.lt (x:HOk P w H h) (e:H a=some o):a < h.objs.size:=(x a o e).lt
theorem HOk.fresh (x:HOk P w H h) (e:h.objs.size<=a):H a=none:=by
  cases q:H a with
  | none=>rfl
  | some u=>exact absurd (Nat.lt_of_lt_of_le (x.lt q) e) (Nat.lt_irrefl _)
theorem HOk.kept (x:HOk P w H h) (k:∀ b u,h.get? b=some u->h'.get? b=some u):HOk P w H h':=fun a o e=>
  (x a o e).stay (fun b u _ q=>k b u q) (fun _ q=>q) fun _ _ q=>q
theorem HOk.laid (x:HOk P w H h) (k:∀ b u,h.get? b=some u->h'.get? b=some u) (hp:h.objs.size<=a) (new:ObjOk P w (upd H a o) h' a o):HOk P w (upd H a o) h':=fun b u e=>by
  have hn:=x.fresh hp
  by_cases hb:b=a
  · subst hb; rw [upd_same] at e; cases e; exact new
  · rw [upd_ne hb] at e
    exact (x b u e).stay (fun c v _ q=>k c v q) (fun c q=>by rw [upd_ne (ne_of_none q hn)]; exact q) fun c xs q=>by rw [upd_ne (ne_of_none q hn)]; exact q
end
def Rd (H:Hp) (a:Addr) (u:HO):Prop:=H a=some u\/∃ o,H a=some (.frz o u)
theorem Rd.ok {P:Program} {w:World} {H:Hp} {h:Heap} {a:Addr} {u:HO} (r:Rd H a u) (x:HOk P w H h):ObjOk P w H h a u:=by
  rcases r with r | ⟨o,r⟩
  · exact x a u r
  · obtain ⟨_,q⟩:=x a _ r
    exact q
def Mut:Option HO->Prop
  | some (.lst _)=>True
  | some (.dK _)=>True
  | some (.dT _)=>True
  | some (.set _ _)=>True
  | some (.ins _ _ _)=>True
  | some (.ext _)=>True
  | _=>False
section
variable {P:Program} {w:World} {H:Hp} {h h':Heap} {x e:Addr} {o':HO}
theorem HOk.write (ok:HOk P w H h) (mu:Mut (H x)) (he:e=x\/H e=some (.own x)) (k:∀ b u,b ≠ e->h.get? b=some u->h'.get? b=some u) (heo:∃ u,h'.get? e=some u)
    (new:ObjOk P w (upd H x o') h' x o'):HOk P w (upd H x o') h':=fun b u q=>by
  have nown:∀ c y,H c=some (.own y)->c ≠ x:=fun c y r z=>by subst z; rw [r] at mu; exact mu
  have ntup:∀ c xs,H c=some (.tup xs)->c ≠ x:=fun c xs r z=>by subst z; rw [r] at mu; exact mu
  by_cases hb:b=x
  · subst hb; rw [upd_same] at q; cases q; exact new
  · rw [upd_ne hb] at q
    by_cases hbe:b=e
    · have q':H b=some (.own x):=by
        rcases he with z | z
        · exact absurd (hbe.trans z) hb
        · rw [hbe]; exact z
      rw [q] at q'; cases q'
      obtain ⟨v,hv⟩:=heo
      exact ⟨v,by rw [hbe]; exact hv⟩
    · refine (ok b u q).stay (fun c v hc r=>k c v ?_ r) (fun c r=>by rw [upd_ne (nown c b r)]; exact r) fun c xs r=>by rw [upd_ne (ntup c xs r)]; exact r
      rcases hc with rfl | hc
      · exact hbe
      · rintro rfl
        rcases he with z | z
        · exact nown c b hc z
        · rw [hc] at z; cases z; exact hb rfl
end
structure Un (fs ex:List Addr) (H H':Hp) (h h':Heap):Prop where
  keep:∀ b o,h.get? b=some o->H b=none->b ∉ fs->b ∉ ex->h'.get? b=some o
  slot:∀ b o,h.get? b=some o->H b=none->b ∈ fs->b ∉ ex->∃ sl,h'.get? b=some { o with slots:=sl }
  free:∀ b o,h.get? b=some o->H b=none->b ∉ ex->H' b=none
  there:∀ b o,h.get? b=some o->b ∉ ex->∃ o',h'.get? b=some o'
  tups:∀ b xs,H b=some (.tup xs)->H' b=some (.tup xs)
  frzs:∀ b o u,H b=some (.frz o u)->H' b=some (.frz o u)
  tbls:∀ b ps,H b=some (.tbl ps)->∃ more,H' b=some (.tbl (ps ++ more))
section
variable {fs fs' ex ex':List Addr} {H H1 H2:Hp} {h h1 h2 h':Heap} {a x e:Addr} {o:HO}
theorem Un.any (u:Un fs ex H H1 h h1) {b:Addr} {ob:Obj} (q:h.get? b=some ob) (n:H b=none) (hx:b ∉ ex):∃ sl,h1.get? b=some { ob with slots:=sl }:=by
  by_cases hb:b ∈ fs
  · exact u.slot b ob q n hb hx
  · exact ⟨ob.slots,u.keep b ob q n hb hx⟩
theorem Un.kept (k:∀ b u,h.get? b=some u->h'.get? b=some u):Un fs ex H H h h':=
  ⟨fun b ob q _ _ _=>k b ob q,fun b ob q _ _ _=>⟨ob.slots,k b ob q⟩,fun _ _ _ n _=>n,fun b ob q _=>⟨ob,k b ob q⟩,fun _ _ q=>q,fun _ _ _ q=>q,fun _ ps q=>⟨#[],by rw [q]; simp⟩⟩
theorem Un.refl:Un fs ex H H h h:=Un.kept fun _ _ q=>q
theorem Un.laid (k:∀ b u,h.get? b=some u->h'.get? b=some u) (hp:h.objs.size<=a) (hn:H a=none):Un fs ex H (upd H a o) h h' where
  keep:=fun b u q _ _ _=>k b u q
  slot:=fun b u q _ _ _=>⟨u.slots,k b u q⟩
  free:=fun b u q n _=>by rw [upd_ne (Nat.ne_of_lt (Nat.lt_of_lt_of_le (Heap.lt_size q) hp))]; exact n
  there:=fun b u q _=>⟨u,k b u q⟩
  tups:=fun b xs q=>by rw [upd_ne (ne_of_none q hn)]; exact q
  frzs:=fun b u xs q=>by rw [upd_ne (ne_of_none q hn)]; exact q
  tbls:=fun b ps q=>⟨#[],by rw [upd_ne (ne_of_none q hn),q]; simp⟩
theorem Un.write (mu:Mut (H x)) (he:e=x\/H e=some (.own x)) (k:∀ b u,b ≠ e->h.get? b=some u->h'.get? b=some u) (heo:∃ u,h'.get? e=some u):Un fs ex H (upd H x o) h h':=by
  have hx:∀ b,H b=none->b ≠ x:=fun b n z=>by subst z; rw [n] at mu; exact mu
  have hb:∀ b,H b=none->b ≠ e:=fun b n z=>by
    subst z
    rcases he with r | r
    · exact hx b n r
    · rw [n] at r; cases r
  have hm:∀ b u,H b=some u->¬ Mut (some u)->b ≠ x:=fun b u q nm z=>by subst z; rw [q] at mu; exact nm mu
  refine ⟨fun b u q n _ _=>k b u (hb b n) q,fun b u q n _ _=>⟨u.slots,k b u (hb b n) q⟩,fun b u q n _=>by rw [upd_ne (hx b n)]; exact n,fun b u q _=>?_,
    fun b xs q=>by rw [upd_ne (hm b _ q fun z=>z)]; exact q,fun b u xs q=>by rw [upd_ne (hm b _ q fun z=>z)]; exact q,fun b ps q=>⟨#[],by rw [upd_ne (hm b _ q fun z=>z),q]; simp⟩⟩
  by_cases hbe:b=e
  · subst hbe; exact heo
  · exact ⟨u,k b u hbe q⟩
end
def trk (h:Heap) (H:Hp):List Addr:=(List.range h.objs.size).filter fun a=>(H a).isSome
def hidT (h:Heap) (H:Hp):Heap:=PySem.W.hideAll h (trk h H)
theorem hidT_size (h:Heap) (H:Hp):(hidT h H).objs.size=h.objs.size:=PySem.W.hideAll_size _ _
theorem hidT_get {h:Heap} {H:Hp} {b:Addr} {o:Obj} (e:h.get? b=some o) (n:H b=none):(hidT h H).get? b=some o:=
  PySem.W.hideAll_get _ e fun hm=>by
    have q:(H b).isSome=true:=(List.mem_filter.mp hm).2
    rw [n] at q; simp at q
theorem of_hidT {h:Heap} {H:Hp} {b:Addr} {o:Obj} (e:(hidT h H).get? b=some o):h.get? b=some o/\H b=none:=by
  have e':h.get? b=some o:=PySem.W.of_hideAll (trk h H) e
  refine ⟨e',?_⟩
  cases q:H b with
  | none=>rfl
  | some x=>
    have hm:b ∈ trk h H:=List.mem_filter.mpr ⟨List.mem_range.mpr (Heap.lt_size e'),by simp [q]⟩
    have z:(hidT h H).get? b=none:=PySem.W.hideAll_none (trk h H) hm
    rw [z] at e; cases e
def allNews (g h:Heap) (L:Addr):List (Addr × Obj):=(List.range h.objs.size).filterMap fun a=>if a=L\/(g.get? a).isSome=true then none else (h.get? a).map fun o=>(a,o)
def rest (g h:Heap) (L d:Addr):List (Addr × Obj):=(allNews g h L).filter fun p=>decide (p.1 ≠ d)
end L2
namespace L2
open PySem PySem.Spec PyProof.Rows
structure Mod (K:PySem.W.Frag) (mg:Str->Option Value) (base:Heap):Prop where
  kin:K.In base
  glob:base.Ns mainGlobals mg
  blt:∃ mb,base.Ns builtinsNs mb/\∀ x:Str,x ≠ "__name__" -> mb x=bootBuiltins x
  nolimit:base.NoLimit
structure Cx where
  prog:Program
  w:World
  K:PySem.W.Frag
  mg:Str->Option Value
  base:Heap
  A:Around
  N:List Str
  s₀:Shared
  H₀:Hp
  env:Env
  outer:List Env
  stack:List Env
  ex:List Addr
  fn:Str->Bool
  calm:Bool
  pn:List (Addr × Obj)
  xe:Value->Shared->Prop
def frs (l:List Env):List Addr:=l.filterMap (·.frame)
abbrev Cx.fs (X:Cx):List Addr:=frs X.outer
def Vis (sc:Scope) (x:Str):Prop:=sc.names.lookup x=some .local\/sc.names.lookup x=some .cell\/sc.names.lookup x=some .free
def Loc (sc:Scope) (x:Str):Prop:=sc.names.lookup x=some .local\/sc.names.lookup x=some .cell
def Look (env:Env) (h:Heap) (m:Str->Option Value) (x:Str) (u:Value):Prop:=
  (env.kindOf x=some .local/\m x=some u)\/((env.kindOf x=some .cell\/env.kindOf x=some .free)/\∃ c,env.cells.lookup x=some c/\h.IsCell c (some u))
structure Cx.Ok (X:Cx):Prop where
  mod:Mod X.K X.mg X.base
  kind:X.env.scope.kind=.function
  glob:X.env.globals=mainGlobals
  blt:X.env.builtins=builtinsNs
  above:X.s₀.heap.objs.size<=X.env.locals
  inj:∀ x y c,X.env.cells.lookup x=some c->X.env.cells.lookup y=some c->x=y
  has:∀ x,(X.env.kindOf x=some .cell\/X.env.kindOf x=some .free)->∃ c,X.env.cells.lookup x=some c
  cab:∀ x c,X.fn x=true->X.env.cells.lookup x=some c->X.s₀.heap.objs.size<=c
  hd:X.calm=true->X.A.handled=none
  frames:X.A.frames=some X.stack
  stk:X.stack=X.outer\/(X.stack=X.env :: X.outer/\X.env.frame=some X.env.locals)
  exf:∀ b ∈ X.ex,b ≠ X.env.locals/\∀ x c,X.env.cells.lookup x=some c->c ≠ b
  bs:∀ b o,X.base.get? b=some o->X.s₀.heap.get? b=some o/\X.H₀ b=none
  bsz:X.base.objs.size<=X.s₀.heap.objs.size
  noex:∀ b o,X.base.get? b=some o->b ∉ X.ex
  exfs:∀ b ∈ X.ex,b ∉ X.fs
  funs:X.s₀.heap.FunFrames X.base X.outer
  frf:∀ b ∈ X.fs,X.H₀ b=none
structure Inv (X:Cx) (pins:List (Addr × Obj)) (σ:List (Option V)) (H:Hp) (s:Shared):Prop where
  ok:X.Ok
  os:s.os=X.s₀.os
  bare:AllBare s.gens
  base:Un X.fs X.ex X.H₀ H X.s₀.heap s.heap
  loc:∃ m,s.heap.Ns X.env.locals m/\∀ (i:Nat) (x:Str) (v:V),X.N[i]?=some x->σ[i]?=some (some v)->Vis X.env.scope x->∃ u,RelV v u/\Look X.env s.heap m x u
  cell:∀ x c,X.env.cells.lookup x=some c->∃ v,s.heap.IsCell c v
  free:H X.env.locals=none
  freeC:∀ x c,X.env.cells.lookup x=some c->H c=none
  pin:∀ p ∈ X.pn ++ pins,s.heap.get? p.1=some p.2/\H p.1=none/\p.1 ≠ X.env.locals/\p.1 ∉ X.fs/\∀ v,p.2.data ≠ .cell v
  hok:HOk X.prog X.w H s.heap
  len:σ.length=X.N.length
section
variable {X:Cx} {pins:List (Addr × Obj)} {σ:List (Option V)} {H H':Hp} {s:Shared} {h':Heap}
theorem Cx.Ok.nofr (ok:X.Ok) {b:Addr} {o:Obj} (e:X.base.get? b=some o):b ∉ X.fs:=fun hb=>by
  have:=(ok.funs.mem hb).1
  rw [e] at this; cases this
theorem Inv.bs (I:Inv X pins σ H s):∀ b o,X.base.get? b=some o->s.heap.get? b=some o/\H b=none:=fun b o e=>
  ⟨I.base.keep b o (I.ok.bs b o e).1 (I.ok.bs b o e).2 (I.ok.nofr e) (I.ok.noex b o e),I.base.free b o (I.ok.bs b o e).1 (I.ok.bs b o e).2 (I.ok.noex b o e)⟩
theorem Inv.bk (I:Inv X pins σ H s):∀ b o,X.base.get? b=some o->s.heap.get? b=some o:=fun b o e=>(I.bs b o e).1
theorem Inv.mod (I:Inv X pins σ H s):Mod X.K X.mg X.base:=I.ok.mod
theorem Inv.kIn (I:Inv X pins σ H s):X.K.In s.heap:=I.ok.mod.kin.keeps I.bk
theorem Inv.lt (I:Inv X pins σ H s):X.env.locals < s.heap.objs.size:=let ⟨_,hn,_⟩:=I.loc; hn.lt
theorem Inv.sz (I:Inv X pins σ H s):X.s₀.heap.objs.size<=s.heap.objs.size:=Nat.le_trans I.ok.above (Nat.le_of_lt I.lt)
theorem Inv.nofs (I:Inv X pins σ H s) {a:Addr} (h:s.heap.objs.size<=a):a ∉ X.fs:=fun hb=>by
  obtain ⟨_,o,ho,_⟩:=I.ok.funs.mem hb
  exact absurd (Nat.lt_of_lt_of_le (Heap.lt_size ho) (Nat.le_trans I.sz h)) (Nat.lt_irrefl _)
theorem Inv.cne (I:Inv X pins σ H s):∀ x c,X.env.cells.lookup x=some c->c ≠ X.env.locals:=fun x c e z=>by
  obtain ⟨v,o,ho,hd⟩:=I.cell x c e
  obtain ⟨m,⟨o',es,ep,ho',hd',_⟩,_⟩:=I.loc
  rw [z,ho'] at ho; cases ho; rw [hd'] at hd; cases hd
theorem Inv.funs (I:Inv X pins σ H s):s.heap.FunFrames X.base X.outer:=by
  have all:∀ (l:List Env),(∀ b ∈ frs l,b ∈ X.fs)->X.s₀.heap.FunFrames X.base l->s.heap.FunFrames X.base l:=by
    intro l
    induction l with
    | nil=>intro _ _; trivial
    | cons env r ih=>
      intro hs hl
      obtain ⟨hk,⟨L,o,hf,hn,ho,hd⟩,hr⟩:=hl
      have hL:L ∈ X.fs:=hs L (by unfold frs; rw [List.filterMap_cons,hf]; exact List.mem_cons_self)
      obtain ⟨sl,e⟩:=I.base.slot L o ho (I.ok.frf L hL) hL fun z=>I.ok.exfs L z hL
      exact ⟨hk,⟨L,_,hf,hn,e,hd⟩,ih (fun b hb=>hs b (by unfold frs; rw [List.filterMap_cons,hf]; exact List.mem_cons_of_mem _ hb)) hr⟩
  exact all X.outer (fun _ hb=>hb) I.ok.funs
theorem Inv.stack (I:Inv X pins σ H s):s.heap.FunFrames X.base X.stack:=by
  rcases I.ok.stk with e | ⟨e,hf⟩
  · rw [e]; exact I.funs
  · rw [e]
    obtain ⟨m,hn,_⟩:=I.loc
    refine .cons (by rw [I.ok.kind]; decide) hf hn ?_ I.funs
    exact Heap.get?_none_of_le (Nat.le_trans I.ok.bsz I.ok.above)
theorem Inv.stkSub (I:Inv X pins σ H s):∀ b ∈ frs X.stack,b ∈ X.env.locals :: X.fs:=fun b hb=>by
  rcases I.ok.stk with e | ⟨e,hf⟩
  · rw [e] at hb; exact List.mem_cons_of_mem _ hb
  · rw [e] at hb
    unfold frs at hb
    rw [List.filterMap_cons,hf] at hb
    exact hb
theorem Inv.stkFree (I:Inv X pins σ H s):∀ b ∈ frs X.stack,H b=none:=fun b hb=>by
  rcases List.mem_cons.mp (I.stkSub b hb) with e | hb
  · rw [e]; exact I.free
  · obtain ⟨_,o,ho,_⟩:=I.ok.funs.mem hb
    exact I.base.free b o ho (I.ok.frf b hb) fun z=>I.ok.exfs b z hb
theorem Inv.step {g':Array GenState} {t':Nat} {d':Drawn} {ch:List Addr} (I:Inv X pins σ H s)
    (hch:∀ b ∈ ch,(b ∈ X.ex\/X.s₀.heap.objs.size<=b)/\b ≠ X.env.locals/\(∀ x c,X.env.cells.lookup x=some c->c ≠ b)/\∀ p ∈ X.pn ++ pins,p.1 ≠ b)
    (keep:∀ b o,b ≠ X.env.locals->b ∉ X.fs->b ∉ ch->s.heap.get? b=some o->H b=none->h'.get? b=some o)
    (slot:∀ b o,b ≠ X.env.locals->b ∈ X.fs->b ∉ ch->s.heap.get? b=some o->H b=none->∃ sl,h'.get? b=some { o with slots:=sl }) (free:∀ b o,b ∉ ch->s.heap.get? b=some o->H b=none->H' b=none)
    (there:∀ b o,b ∉ ch->s.heap.get? b=some o->∃ o',h'.get? b=some o')
    (tups:∀ b xs,H b=some (.tup xs)->H' b=some (.tup xs)) (frzs:∀ b o u,H b=some (.frz o u)->H' b=some (.frz o u)) (tbls:∀ b ps,H b=some (.tbl ps)->∃ more,H' b=some (.tbl (ps ++ more)))
    (ns:∀ m,s.heap.Ns X.env.locals m->h'.Ns X.env.locals m) (hok:HOk X.prog X.w H' h') (hg:AllBare g') :
    Inv X pins σ H' { s with heap:=h',gens:=g',drawn:=d',toks:=t' }:=by
  have neL:∀ b o,X.s₀.heap.get? b=some o->b ≠ X.env.locals:=fun b o e=>Nat.ne_of_lt (Nat.lt_of_lt_of_le (Heap.lt_size e) I.ok.above)
  have neC:∀ b o,X.s₀.heap.get? b=some o->b ∉ X.ex->b ∉ ch:=fun b o e hx hb=>by
    rcases (hch b hb).1 with z | z
    · exact hx z
    · exact absurd (Nat.lt_of_lt_of_le (Heap.lt_size e) z) (Nat.lt_irrefl _)
  have cellK:∀ x c,X.env.cells.lookup x=some c->∀ v,s.heap.IsCell c v->h'.IsCell c v:=fun x c e v ⟨o,ho,hd⟩=>by
    have nch:c ∉ ch:=fun z=>(hch c z).2.2.1 x c e rfl
    by_cases hc:c ∈ X.fs
    · obtain ⟨sl,q⟩:=slot c o (I.cne x c e) hc nch ho (I.freeC x c e)
      exact ⟨_,q,hd⟩
    · exact ⟨o,keep c o (I.cne x c e) hc nch ho (I.freeC x c e),hd⟩
  refine ⟨I.ok,I.os,hg,⟨fun b o e n hb hx=>?_,fun b o e n hb hx=>?_,fun b o e n hx=>?_,fun b o e hx=>?_,fun b xs e=>tups b xs (I.base.tups b xs e),fun b o xs e=>frzs b o xs (I.base.frzs b o xs e),fun b ps e=>?_⟩,?_,fun x c e=>?_,?_,fun x c e=>?_,fun p hp=>?_,hok,I.len⟩
  · exact keep b o (neL b o e) hb (neC b o e hx) (I.base.keep b o e n hb hx) (I.base.free b o e n hx)
  · obtain ⟨sl,e1⟩:=I.base.slot b o e n hb hx
    obtain ⟨sl',e2⟩:=slot b _ (neL b o e) hb (neC b o e hx) e1 (I.base.free b o e n hx)
    exact ⟨sl',e2⟩
  · obtain ⟨o',e1⟩:=I.base.there b o e hx
    exact free b o' (neC b o e hx) e1 (I.base.free b o e n hx)
  · obtain ⟨o',e1⟩:=I.base.there b o e hx
    exact there b o' (neC b o e hx) e1
  · obtain ⟨m1,e1⟩:=I.base.tbls b ps e
    obtain ⟨m2,e2⟩:=tbls b _ e1
    exact ⟨m1 ++ m2,by rw [e2,Array.append_assoc]⟩
  · obtain ⟨m,hn,hl⟩:=I.loc
    refine ⟨m,ns m hn,fun i x v e1 e2 e3=>?_⟩
    obtain ⟨u,r,l⟩:=hl i x v e1 e2 e3
    refine ⟨u,r,?_⟩
    rcases l with l | ⟨k,c,e,z⟩
    · exact .inl l
    · exact .inr ⟨k,c,e,cellK x c e _ z⟩
  · obtain ⟨v,z⟩:=I.cell x c e
    exact ⟨v,cellK x c e v z⟩
  · obtain ⟨m,⟨o,_,_,ho,_⟩,_⟩:=I.loc
    exact free _ o (fun z=>(hch _ z).2.1 rfl) ho I.free
  · obtain ⟨v,o,ho,hd⟩:=I.cell x c e
    exact free c o (fun z=>(hch c z).2.2.1 x c e rfl) ho (I.freeC x c e)
  · obtain ⟨e,n,ne,nf,d⟩:=I.pin p hp
    have nch:p.1 ∉ ch:=fun z=>(hch p.1 z).2.2.2 p hp rfl
    exact ⟨keep p.1 p.2 ne nf nch e n,free p.1 p.2 nch e n,ne,nf,d⟩
theorem Inv.un {t':Nat} (I:Inv X pins σ H s) (u:Un X.fs [] H H' s.heap h') (hok:HOk X.prog X.w H' h'):Inv X pins σ H' { s with heap:=h',toks:=t' }:=by
  obtain ⟨m,⟨o,es,ep,ho,r⟩,_⟩:=id I.loc
  obtain ⟨sl,hL⟩:=u.any ho I.free (by simp)
  exact I.step (g':=s.gens) (d':=s.drawn) (ch:=[]) (fun _ z=>nomatch z) (fun b o _ hb _ e n=>u.keep b o e n hb (by simp)) (fun b o _ hb _ e n=>u.slot b o e n hb (by simp)) (fun b o _ e n=>u.free b o e n (by simp)) (fun b o _ e=>u.there b o e (by simp)) u.tups u.frzs u.tbls (fun m' hm=>by
    obtain ⟨o',es',ep',ho',r'⟩:=hm
    rw [ho] at ho'; cases ho'
    exact ⟨_,es',ep',hL,r'⟩) hok I.bare
theorem Inv.call {g':Array GenState} {t':Nat} {d':Drawn} {ch:List Addr} (I:Inv X pins σ H s) (u:Un (frs X.stack) ch H H' s.heap h') (hok:HOk X.prog X.w H' h') (hg:AllBare g')
    (hch:∀ b ∈ ch,(b ∈ X.ex\/X.s₀.heap.objs.size<=b)/\b ≠ X.env.locals/\(∀ x c,X.env.cells.lookup x=some c->c ≠ b)/\∀ p ∈ X.pn ++ pins,p.1 ≠ b) :
    Inv X pins σ H' { s with heap:=h',gens:=g',drawn:=d',toks:=t' }:=by
  obtain ⟨m,⟨o,es,ep,ho,r⟩,_⟩:=id I.loc
  obtain ⟨sl,hL⟩:=u.any ho I.free fun z=>(hch _ z).2.1 rfl
  exact I.step (ch:=ch) hch (fun b o hL hb hc e n=>u.keep b o e n (fun z=>(List.mem_cons.mp (I.stkSub b z)).elim hL hb) hc) (fun b o _ _ hc e n=>u.any e n hc) (fun b o hc e n=>u.free b o e n hc) (fun b o hc e=>u.there b o e hc) u.tups u.frzs u.tbls (fun m' hm=>by
    obtain ⟨o',es',ep',ho',r'⟩:=hm
    rw [ho] at ho'; cases ho'
    exact ⟨_,es',ep',hL,r'⟩) hok hg
theorem Inv.turned {t':Nat} {it:Addr} (I:Inv X pins σ H s) (k:∀ b o,b ≠ it->s.heap.get? b=some o->h'.get? b=some o) (hn:H it=none) (hL:it ≠ X.env.locals)
    (h1:it ∈ X.ex\/X.s₀.heap.objs.size<=it) (h2:∀ x c,X.env.cells.lookup x=some c->c ≠ it) (h3:∀ p ∈ X.pn ++ pins,p.1 ≠ it):Inv X pins σ H { s with heap:=h',toks:=t' }:=by
  have nit:∀ b u,H b=some u->b ≠ it:=fun b u e z=>by rw [z,hn] at e; cases e
  refine I.step (g':=s.gens) (d':=s.drawn) (ch:=[it]) (fun b hb=>?_) (fun b o _ _ hc e _=>k b o (fun z=>hc (by simp [z])) e) (fun b o _ _ hc e _=>⟨o.slots,k b o (fun z=>hc (by simp [z])) e⟩) (fun _ _ _ _ n=>n)
    (fun b o hc e=>⟨o,k b o (fun z=>hc (by simp [z])) e⟩) (fun _ _ e=>e) (fun _ _ _ e=>e) (fun b ps e=>⟨#[],by rw [e]; simp⟩) (fun m hm=>?_) (fun b u e=>?_) I.bare
  · have e:b=it:=by simpa using hb
    subst e
    exact ⟨h1,hL,h2,h3⟩
  · obtain ⟨o,es,ep,ho,r⟩:=hm
    exact ⟨o,es,ep,k _ o (Ne.symm hL) ho,r⟩
  · refine (I.hok b u e).stay (fun c v hc q=>k c v ?_ q) (fun _ q=>q) fun _ _ q=>q
    rcases hc with z | z
    · rw [z]; exact nit b u e
    · exact nit c _ z
theorem Inv.tok (I:Inv X pins σ H s) (t:Nat):Inv X pins σ H { s with toks:=t }:=I.un (h':=s.heap) (t':=t) Un.refl I.hok
theorem Inv.kept {t':Nat} (I:Inv X pins σ H s) (k:∀ b u,s.heap.get? b=some u->h'.get? b=some u):Inv X pins σ H { s with heap:=h',toks:=t' }:=I.un (Un.kept k) (I.hok.kept k)
theorem Inv.laid {a:Addr} {o:HO} {t':Nat} (I:Inv X pins σ H s) (k:∀ b u,s.heap.get? b=some u->h'.get? b=some u) (hp:s.heap.objs.size<=a) (new:ObjOk X.prog X.w (upd H a o) h' a o) :
    Inv X pins σ (upd H a o) { s with heap:=h',toks:=t' }:=I.un (Un.laid k hp (I.hok.fresh hp)) (I.hok.laid k hp new)
theorem Inv.write {x e:Addr} {o:HO} {t':Nat} (I:Inv X pins σ H s) (mu:Mut (H x)) (he:e=x\/H e=some (.own x)) (k:∀ b u,b ≠ e->s.heap.get? b=some u->h'.get? b=some u) (heo:∃ u,h'.get? e=some u)
    (new:ObjOk X.prog X.w (upd H x o) h' x o):Inv X pins σ (upd H x o) { s with heap:=h',toks:=t' }:=I.un (Un.write mu he k heo) (I.hok.write mu he k heo new)
theorem Inv.pins_of {pins':List (Addr × Obj)} (I:Inv X pins σ H s) (h:∀ p ∈ pins',s.heap.get? p.1=some p.2/\H p.1=none/\p.1 ≠ X.env.locals/\p.1 ∉ X.fs/\∀ v,p.2.data ≠ .cell v):Inv X pins' σ H s:=
  ⟨I.ok,I.os,I.bare,I.base,I.loc,I.cell,I.free,I.freeC,fun p hp=>(List.mem_append.mp hp).elim (fun z=>I.pin p (List.mem_append_left _ z)) (h p),I.hok,I.len⟩
theorem nodup_ix {N:List Str} (hN:N.Nodup) {i j:Nat} {x:Str} (a:N[i]?=some x) (b:N[j]?=some x):i=j:=by
  obtain ⟨h1,e1⟩:=List.getElem?_eq_some_iff.mp a
  obtain ⟨h2,e2⟩:=List.getElem?_eq_some_iff.mp b
  exact (List.getElem_inj hN).mp (e1.trans e2.symm)
theorem store_ok2 {M:Model} {A:Around} {E:Value->Shared->Prop} {i:Nat} {x:Str} {v:V} {u:Value} {Q:Unit->Shared->Prop} (I:Inv X pins σ H s) (hN:X.N.Nodup) (hi:X.N[i]?=some x) (hx:Loc X.env.scope x) (r:RelV v u)
    (h:∀ s',Inv X pins (σ.set i (some v)) H s'->(∃ a,Heap.SameBut a s.heap s'.heap/\(a=X.env.locals\/X.env.cells.lookup x=some a))->Q () s') (hf:X.fn x=true\/X.env.scope.names.lookup x=some .local:=by first | exact .inl rfl | exact .inr rfl | assumption):wpAny M A (storeName X.env x u) Q E s:=by
  obtain ⟨m,hn,hl⟩:=id I.loc
  have hcls:(X.env.scope.kind == .class || (X.env.scope.kind == .module && X.env.locals != X.env.globals))=false:=by rw [I.ok.kind]; rfl
  have hiσ:i < σ.length:=by rw [I.len]; exact (List.getElem?_eq_some_iff.mp hi).1
  have cne:=I.cne
  have tracked:∀ {a:Addr} {h':Heap},(∃ o,s.heap.get? a=some o/\H a=none)->Heap.SameBut a s.heap h'->HOk X.prog X.w H h':=fun {a h'} ha hs b ob e=>by
    obtain ⟨_,_,hfree⟩:=ha
    refine (I.hok b ob e).stay (fun c w' hc q=>(hs.2 c ?_).trans q) (fun _ q=>q) fun _ _ q=>q
    rintro rfl
    rcases hc with rfl | hc
    · rw [hfree] at e; cases e
    · rw [hfree] at hc; cases hc
  rcases hx with hk | hk
  · refine wpAny_storeName_local hk hn (fun h' hn' hs=>?_) hcls
    obtain ⟨oL,_,_,hoL,_⟩:=id hn
    refine h _ ⟨I.ok,I.os,I.bare,⟨fun b o e n hb hx=>?_,fun b o e n hb hx=>?_,I.base.free,fun b o e hx=>?_,I.base.tups,I.base.frzs,I.base.tbls⟩,⟨_,hn',fun j y v' e1 e2 e3=>?_⟩,fun y c e=>?_,I.free,I.freeC,fun p hp=>?_,tracked ⟨oL,hoL,I.free⟩ hs,by simpa using I.len⟩ ⟨_,hs,.inl rfl⟩
    · exact (hs.2 b (Nat.ne_of_lt (Nat.lt_of_lt_of_le (Heap.lt_size e) I.ok.above))).trans (I.base.keep b o e n hb hx)
    · obtain ⟨sl,e1⟩:=I.base.slot b o e n hb hx
      exact ⟨sl,(hs.2 b (Nat.ne_of_lt (Nat.lt_of_lt_of_le (Heap.lt_size e) I.ok.above))).trans e1⟩
    · obtain ⟨o',e1⟩:=I.base.there b o e hx
      exact ⟨o',(hs.2 b (Nat.ne_of_lt (Nat.lt_of_lt_of_le (Heap.lt_size e) I.ok.above))).trans e1⟩
    · by_cases hj:j=i
      · subst hj
        rw [hi] at e1; cases e1
        rw [List.getElem?_set_self hiσ] at e2
        cases e2
        exact ⟨u,r,.inl ⟨hk,by simp⟩⟩
      · rw [List.getElem?_set_ne (Ne.symm hj)] at e2
        obtain ⟨u',r',q⟩:=hl j y v' e1 e2 e3
        refine ⟨u',r',?_⟩
        rcases q with ⟨k,e⟩ | ⟨k,c,e,z⟩
        · refine .inl ⟨k,?_⟩
          have:y ≠ x:=fun e=>hj (nodup_ix hN e1 (e ▸ hi))
          simp [this,e]
        · exact .inr ⟨k,c,e,z.sameBut hs (cne y c e)⟩
    · obtain ⟨w',z⟩:=I.cell y c e
      exact ⟨w',z.sameBut hs (cne y c e)⟩
    · obtain ⟨e,n,ne,nf,d⟩:=I.pin p hp
      exact ⟨(hs.2 p.1 ne).trans e,n,ne,nf,d⟩
  · have hfn:X.fn x=true:=by
      rcases hf with z | z
      · exact z
      · rw [z] at hk; cases hk
    obtain ⟨c,hc⟩:=I.ok.has x (.inl hk)
    obtain ⟨w',z⟩:=I.cell x c hc
    refine wpAny_storeName_cell I.ok.kind hk hc z (fun h' hc' hs=>?_)
    obtain ⟨oc,hoc,hocd⟩:=id z
    refine h { s with heap:=h' } ⟨I.ok,I.os,I.bare,⟨fun b o e n hb hx=>?_,fun b o e n hb hx=>?_,I.base.free,fun b o e hx=>?_,I.base.tups,I.base.frzs,I.base.tbls⟩,⟨m,hn.sameBut hs (Ne.symm (cne x c hc)),fun j y v' e1 e2 e3=>?_⟩,fun y c' e=>?_,I.free,I.freeC,fun p hp=>?_,tracked ⟨oc,hoc,I.freeC x c hc⟩ hs,by simpa using I.len⟩ ⟨c,hs,.inr hc⟩
    · exact (hs.2 b (Nat.ne_of_lt (Nat.lt_of_lt_of_le (Heap.lt_size e) (I.ok.cab x c hfn hc)))).trans (I.base.keep b o e n hb hx)
    · obtain ⟨sl,e1⟩:=I.base.slot b o e n hb hx
      exact ⟨sl,(hs.2 b (Nat.ne_of_lt (Nat.lt_of_lt_of_le (Heap.lt_size e) (I.ok.cab x c hfn hc)))).trans e1⟩
    · obtain ⟨o',e1⟩:=I.base.there b o e hx
      exact ⟨o',(hs.2 b (Nat.ne_of_lt (Nat.lt_of_lt_of_le (Heap.lt_size e) (I.ok.cab x c hfn hc)))).trans e1⟩
    · by_cases hj:j=i
      · subst hj
        rw [hi] at e1; cases e1
        rw [List.getElem?_set_self hiσ] at e2
        cases e2
        exact ⟨u,r,.inr ⟨.inl hk,c,hc,hc'⟩⟩
      · rw [List.getElem?_set_ne (Ne.symm hj)] at e2
        obtain ⟨u',r',q⟩:=hl j y v' e1 e2 e3
        refine ⟨u',r',?_⟩
        rcases q with q | ⟨k,c',e,z'⟩
        · exact .inl q
        · refine .inr ⟨k,c',e,z'.sameBut hs ?_⟩
          rintro rfl
          exact hj (nodup_ix hN e1 (I.ok.inj _ _ _ e hc ▸ hi))
    · by_cases hcc:c'=c
      · subst hcc; exact ⟨_,hc'⟩
      · obtain ⟨w2,z2⟩:=I.cell y c' e
        exact ⟨w2,z2.sameBut hs hcc⟩
    · obtain ⟨e,n,ne,nf,d⟩:=I.pin p hp
      refine ⟨(hs.2 p.1 ?_).trans e,n,ne,nf,d⟩
      intro q
      rw [q,hoc] at e
      have q':oc=p.2:=Option.some.inj e
      exact d w' (by rw [<- q']; exact hocd)
theorem store_ok {M:Model} {A:Around} {E:Value->Shared->Prop} {i:Nat} {x:Str} {v:V} {u:Value} {Q:Unit->Shared->Prop} (I:Inv X pins σ H s) (hN:X.N.Nodup) (hi:X.N[i]?=some x) (hx:Loc X.env.scope x) (r:RelV v u)
    (h:∀ s',Inv X pins (σ.set i (some v)) H s'->Q () s') (hf:X.fn x=true\/X.env.scope.names.lookup x=some .local:=by first | exact .inl rfl | exact .inr rfl | assumption):wpAny M A (storeName X.env x u) Q E s:=
  store_ok2 I hN hi hx r (fun s' I' _=>h s' I') hf
theorem Inv.call' {s':Shared} {ch:List Addr} (I:Inv X pins σ H s) (ho:s'.os=s.os) (u:Un (frs X.stack) ch H H' s.heap s'.heap) (hok:HOk X.prog X.w H' s'.heap) (hg:AllBare s'.gens)
    (hch:∀ b ∈ ch,(b ∈ X.ex\/X.s₀.heap.objs.size<=b)/\b ≠ X.env.locals/\(∀ x c,X.env.cells.lookup x=some c->c ≠ b)/\∀ p ∈ X.pn ++ pins,p.1 ≠ b):Inv X pins σ H' s':=by
  obtain ⟨h',g',d',t',o'⟩:=s'
  have e:o'=s.os:=ho
  subst e
  exact I.call (g':=g') (t':=t') (d':=d') u hok hg hch
end
abbrev XK:=Value->Option Addr->Hp->Prop
abbrev St:=List (Option V)
abbrev VK:=V->Hp->Prop
abbrev TE:=St->Hp->VK->Prop
abbrev TT:=St->Hp->(Bool->Hp->Prop)->Prop
abbrev TA:=St->Hp->(List V->Hp->Prop)->Prop
structure Ends where
  nx:St->Hp->Prop
  rt:VK
  bk:St->Hp->Prop:=fun _ _=>False
  ct:St->Hp->Prop:=fun _ _=>False
abbrev TS:=Ends->St->Hp->Prop
def EP (X:Cx) (pins:List (Addr × Obj)) (σ:St) (Q:VK) (u:Value) (s':Shared):Prop:=∃ v H',Inv X pins σ H' s'/\RelV v u/\Q v H'
def TP (X:Cx) (pins:List (Addr × Obj)) (σ:St) (Q:Bool->Hp->Prop) (b:Bool) (s':Shared):Prop:=∃ H',Inv X pins σ H' s'/\Q b H'
def AP (X:Cx) (pins:List (Addr × Obj)) (σ:St) (Q:List V->Hp->Prop) (us:List Value) (s':Shared):Prop:=∃ vs H',Inv X pins σ H' s'/\Vals vs us/\Q vs H'
def SP (X:Cx) (pins:List (Addr × Obj)) (D:Ends) (f:Flow) (s':Shared):Prop:=
  match f with
  | .next=>∃ σ' H',Inv X pins σ' H' s'/\D.nx σ' H'
  | .brk=>∃ σ' H',Inv X pins σ' H' s'/\D.bk σ' H'
  | .cont=>∃ σ' H',Inv X pins σ' H' s'/\D.ct σ' H'
  | .ret u=>∃ v σ' H',Inv X pins σ' H' s'/\RelV v u/\D.rt v H'
def PE (X:Cx) (e:Expr) (t:TE):Prop:=
  ∀ (pins:List (Addr × Obj)) (s:Shared) (σ:St) (H:Hp) (Q:VK),Inv X pins σ H s->t σ H Q->wpAny (model X.prog X.w) X.A (eval e X.env) (EP X pins σ Q) X.xe s
def PT (X:Cx) (e:Expr) (t:TT):Prop:=
  ∀ (pins:List (Addr × Obj)) (s:Shared) (σ:St) (H:Hp) (Q:Bool->Hp->Prop),Inv X pins σ H s->t σ H Q->wpAny (model X.prog X.w) X.A (isTrue e X.env (eval e X.env)) (TP X pins σ Q) X.xe s
def PW (X:Cx) (e:Expr) (t:TT):Prop:=
  ∀ (whole:Sem Value) (pins:List (Addr × Obj)) (s:Shared) (σ:St) (H:Hp) (Q:Bool->Hp->Prop),Inv X pins σ H s->t σ H Q->wpAny (model X.prog X.w) X.A (isTrue e X.env whole) (TP X pins σ Q) X.xe s
theorem PW.pt {X:Cx} {e:Expr} {t:TT} (h:PW X e t):PT X e t:=h _
def PA (X:Cx) (es:List Expr) (t:TA):Prop:=
  ∀ (pos:Pos) (pins:List (Addr × Obj)) (s:Shared) (σ:St) (H:Hp) (Q:List V->Hp->Prop),Inv X pins σ H s->t σ H Q->wpAny (model X.prog X.w) X.A (spliced (backTo pos (starEach es X.env))) (AP X pins σ Q) X.xe s
def PS (X:Cx) (st:Stmt) (t:TS):Prop:=
  ∀ (pins:List (Addr × Obj)) (s:Shared) (σ:St) (H:Hp) (D:Ends),Inv X pins σ H s->t D σ H->wpAny (model X.prog X.w) X.A (exec st X.env) (SP X pins D) X.xe s
def PSs (X:Cx) (st:List Stmt) (t:TS):Prop:=
  ∀ (pins:List (Addr × Obj)) (s:Shared) (σ:St) (H:Hp) (D:Ends),Inv X pins σ H s->t D σ H->wpAny (model X.prog X.w) X.A (execs st X.env) (SP X pins D) X.xe s
theorem thn {α:Type} {t:Sem α} {Q Q':α->Shared->Prop} {M:Model} {A:Around} {E:Value->Shared->Prop} {s:Shared} (h:wpAny M A t Q E s) (hQ:∀ a s,Q a s->Q' a s):wpAny M A t Q' E s:=wpAny_mono h hQ fun _ _ x=>x
end L2
namespace L2
open PySem PySem.Spec PyProof.Rows
section
variable {X:Cx}
def tVar (i:Nat):TE:=fun σ H Q=>∃ v,σ[i]?=some (some v)/\Q v H
def tC (v:V):TE:=fun _ H Q=>Q v H
theorem pe_var {i:Nat} {x:Str} {pos:Pos} (hN:X.N[i]?=some x) (hv:Vis X.env.scope x) (hd:(x == ("__debug__" : Str))=false:=by decide) (hcd:(x == ("__classdict__" : Str))=false:=by decide):PE X (.Name x pos) (tVar i):=by
  intro pins s σ H Q I h
  obtain ⟨v,e,h⟩:=h
  obtain ⟨m,hn,hl⟩:=I.loc
  obtain ⟨u,r,l⟩:=hl i x v hN e hv
  have fin:EP X pins σ Q u s:=⟨v,H,I,r,h⟩
  rcases l with ⟨hk,hm⟩ | ⟨hk,c,hc,hcell⟩
  · exact wpAny_Name (wpAny_loadName_local I.ok.kind hk hn hm fin) hd
  · rcases hk with hk | hk
    · exact wpAny_Name (wpAny_loadName_cell I.ok.kind hk hc hcell fin) hd
    · exact wpAny_Name (wpAny_loadName_free I.ok.kind hk hc hcell fin hcd) hd
theorem pe_int {i j pos}:PE X (.Constant (.int i) j pos) (tC (.int i)):=fun _ _ _ H _ I h=>wpAny_Constant_int ⟨.int i,H,I.tok _,⟨_,rfl⟩,h⟩
theorem pe_bl {b j pos}:PE X (.Constant (.bool b) j pos) (tC (.bl b)):=fun _ _ _ H _ I h=>Constant_bool ⟨.bl b,H,I,rfl,h⟩
theorem pe_str {x j pos}:PE X (.Constant (.str x) j pos) (tC (.str x)):=fun _ _ _ H _ I h=>Calls.Constant_str ⟨.str x,H,I.tok _,⟨_,rfl⟩,h⟩
def Gl (X:Cx) (x:Str):Prop:=X.env.kindOf x=some .globalImplicit
theorem ld_glob {E:Value->Shared->Prop} {pins:List (Addr × Obj)} {s:Shared} {σ:St} {H:Hp} {x:Str} {u:Value} {pos:Pos} {Q:Value->Shared->Prop} (I:Inv X pins σ H s) (hg:Gl X x) (hm:X.mg x=some u) (h:Q u s)
    (hd:(x == ("__debug__" : Str))=false:=by decide):wpAny (model X.prog X.w) X.A (eval (.Name x pos) X.env) Q E s:=
  Calls.Name_function_global I.ok.kind hg (Calls.loadGlobal_global (by rw [I.ok.glob]; exact I.mod.glob.keeps I.bk) hm h) hd
theorem ld_blt {E:Value->Shared->Prop} {pins:List (Addr × Obj)} {s:Shared} {σ:St} {H:Hp} {x:Str} {u:Value} {pos:Pos} {Q:Value->Shared->Prop} (I:Inv X pins σ H s) (hg:Gl X x) (hm:X.mg x=none) (hv:bootBuiltins x=some u) (h:Q u s)
    (hn:x ≠ "__name__" := by decide) (hd:(x == ("__debug__" : Str))=false:=by decide):wpAny (model X.prog X.w) X.A (eval (.Name x pos) X.env) Q E s:=by
  obtain ⟨mb,h1,h2⟩:=I.mod.blt
  exact Calls.Name_function_global I.ok.kind hg (Calls.loadGlobal_builtin (by rw [I.ok.glob]; exact I.mod.glob.keeps I.bk) hm (by rw [I.ok.blt]; exact h1.keeps I.bk) ((h2 x hn).trans hv) h) hd
theorem pe_glob {x:Str} {v:V} {u:Value} {pos:Pos} (hg:Gl X x) (hm:X.mg x=some u) (r:RelV v u) (hd:(x == ("__debug__" : Str))=false:=by decide):PE X (.Name x pos) (tC v):=
  fun _ _ _ H _ I h=>ld_glob I hg hm ⟨v,H,I,r,h⟩ hd
theorem pe_bltn {x:Str} {v:V} {u:Value} {pos:Pos} (hg:Gl X x) (hm:X.mg x=none) (hv:bootBuiltins x=some u) (r:RelV v u) (hn:x ≠ "__name__" := by decide) (hd:(x == ("__debug__" : Str))=false:=by decide):PE X (.Name x pos) (tC v):=
  fun _ _ _ H _ I h=>ld_blt I hg hm hv ⟨v,H,I,r,h⟩ hn hd
variable {a b:Expr} {ta tb:TE} {pos:Pos}
def tB (t:TE):TT:=fun σ H Q=>t σ H fun x H1=>∃ c,x=.bl c/\Q c H1
theorem pt_val {e:Expr} {t:TE} (h:PE X e t) (he:∀ whole,isTrue e X.env whole=(do let v <- whole; standAt e.pos; holding [v] (truthy v)):=by intro _; rfl):PT X e (tB t):=by
  intro pins s σ H Q I hw
  refine isTrue_plain (thn (h pins s σ H _ I hw) fun v s1 ⟨x,H1,I1,r1,q1⟩=>?_) (he _)
  obtain ⟨d,rfl,q⟩:=q1
  cases r1
  exact wpAny_truthy_bool ⟨H1,I1,q⟩
variable {tA tB':TT} {rest:List Expr}
def tAnd (t u:TT):TT:=fun σ H Q=>t σ H fun c H1=>if c=true then u σ H1 Q else Q false H1
def tOr (t u:TT):TT:=fun σ H Q=>t σ H fun c H1=>if c=true then Q true H1 else u σ H1 Q
def tNot (t:TT):TT:=fun σ H Q=>t σ H fun c H1=>Q (!c) H1
theorem pw_and1 (ha:PT X a tA):PW X (.BoolOp .And [a] pos) tA:=by
  intro wh pins s σ H Q I h
  refine isTrue_and (thn (ha pins s σ H Q I h) fun c s1 e=>?_)
  cases c with
  | true=>exact isTrue_and_nil e
  | false=>exact e
theorem pw_or1 (ha:PT X a tA):PW X (.BoolOp .Or [a] pos) tA:=by
  intro wh pins s σ H Q I h
  refine isTrue_or (thn (ha pins s σ H Q I h) fun c s1 e=>?_)
  cases c with
  | false=>exact isTrue_or_nil e
  | true=>exact e
theorem pw_and (ha:PT X a tA) (hb:PW X (.BoolOp .And (b :: rest) pos) tB'):PW X (.BoolOp .And (a :: b :: rest) pos) (tAnd tA tB'):=by
  intro wh pins s σ H Q I h
  refine isTrue_and (thn (ha pins s σ H _ I h) fun c s1 ⟨H1,I1,q1⟩=>?_)
  cases c with
  | true=>exact hb wh pins s1 σ H1 Q I1 q1
  | false=>exact ⟨H1,I1,q1⟩
theorem pw_or (ha:PT X a tA) (hb:PW X (.BoolOp .Or (b :: rest) pos) tB'):PW X (.BoolOp .Or (a :: b :: rest) pos) (tOr tA tB'):=by
  intro wh pins s σ H Q I h
  refine isTrue_or (thn (ha pins s σ H _ I h) fun c s1 ⟨H1,I1,q1⟩=>?_)
  cases c with
  | true=>exact ⟨H1,I1,q1⟩
  | false=>exact hb wh pins s1 σ H1 Q I1 q1
theorem pt_not (ha:PT X a tA):PT X (.UnaryOp .Not a pos) (tNot tA):=by
  intro pins s σ H Q I h
  exact isTrue_not (ha pins s σ H (fun c H1=>Q (!c) H1) I h)
def tAndV (ta tb:TE):TE:=fun σ H Q=>ta σ H fun x H1=>∃ c,x=.bl c/\if c=true then tb σ H1 Q else Q (.bl false) H1
def tOrV (ta tb:TE):TE:=fun σ H Q=>ta σ H fun x H1=>∃ c,x=.bl c/\if c=true then Q (.bl true) H1 else tb σ H1 Q
def tNotV (ta:TE):TE:=fun σ H Q=>ta σ H fun x H1=>∃ c,x=.bl c/\Q (.bl (!c)) H1
theorem pe_one {op} {t:TE} (h:PE X a t):PE X (.BoolOp op [a] pos) t:=fun pins s σ H Q I hw=>BoolOp_one (h pins s σ H Q I hw)
theorem pe_and (ha:PE X a ta) (hb:PE X (.BoolOp .And (b :: rest) pos) tb):PE X (.BoolOp .And (a :: b :: rest) pos) (tAndV ta tb):=by
  intro pins s σ H Q I h
  refine BoolOp_and (thn (ha pins s σ H _ I h) fun v s1 ⟨x,H1,I1,r1,q1⟩=>?_)
  obtain ⟨c,rfl,q1⟩:=q1
  cases r1
  refine wpAny_truthy_bool ?_
  cases c with
  | true=>exact hb pins s1 σ H1 Q I1 q1
  | false=>exact ⟨.bl false,H1,I1,rfl,q1⟩
theorem pe_or (ha:PE X a ta) (hb:PE X (.BoolOp .Or (b :: rest) pos) tb):PE X (.BoolOp .Or (a :: b :: rest) pos) (tOrV ta tb):=by
  intro pins s σ H Q I h
  refine BoolOp_or (thn (ha pins s σ H _ I h) fun v s1 ⟨x,H1,I1,r1,q1⟩=>?_)
  obtain ⟨c,rfl,q1⟩:=q1
  cases r1
  refine wpAny_truthy_bool ?_
  cases c with
  | false=>exact hb pins s1 σ H1 Q I1 q1
  | true=>exact ⟨.bl true,H1,I1,rfl,q1⟩
theorem pe_not (ha:PE X a ta):PE X (.UnaryOp .Not a pos) (tNotV ta):=by
  intro pins s σ H Q I h
  refine UnaryOp_ (thn (ha pins s σ H _ I h) fun v s1 ⟨x,H1,I1,r1,q1⟩=>?_)
  obtain ⟨c,rfl,q1⟩:=q1
  cases r1
  exact not_of (wpAny_truthy_bool ⟨.bl (!c),H1,I1,rfl,q1⟩)
def tIf (t:TT) (ta tb:TE):TE:=fun σ H Q=>t σ H fun c H1=>if c=true then ta σ H1 Q else tb σ H1 Q
theorem pe_ifExp {c:Expr} (hc:PT X c tA) (ha:PE X a ta) (hb:PE X b tb):PE X (.IfExp c a b pos) (tIf tA ta tb):=by
  intro pins s σ H Q I h
  refine wpAny_IfExp (thn (hc pins s σ H _ I h) fun d s1 ⟨H1,I1,q1⟩=>?_)
  cases d with
  | true=>exact ha pins s1 σ H1 Q I1 q1
  | false=>exact hb pins s1 σ H1 Q I1 q1
end
end L2
namespace L2
open PySem PySem.Spec PyProof.Rows
def SqL (K:PySem.W.Frag) (H:Hp) (a:Addr) (xs:List V):Prop:=
  Rd H a (.lst xs) \/
    ∃ (o:Obj) (its:Array Value) (n:Nat),K.lookup a=some o/\o.cls=.type "list" /\ o.dict=none/\o.data=.seq its n/\its.size<=sizeLine/\Vals xs its.toList
def SqT (K:PySem.W.Frag) (H:Hp) (a:Addr) (xs:List V):Prop:=
  Rd H a (.tup xs) \/
    ∃ (o:Obj) (its:Array Value) (n:Nat),K.lookup a=some o/\o.cls=.type "tuple" /\ o.data=.seq its n/\its.size<=sizeLine/\Vals xs its.toList
def absV:Value->Option V
  | .none=>some .non
  | .bool b=>some (.bl b)
  | .int i _=>some (.int i)
  | .str x _=>some (.str x)
  | .bytes b _=>some (.byt b)
  | .float b _=>some (.flt b)
  | .ref a=>some (.ref a)
  | .type n=>some (.ty n)
  | _=>none
theorem RelV.abs {x:V} {u:Value} (r:RelV x u):absV u=some x:=by
  cases x with
  | non=>cases r; rfl
  | bl _=>cases r; rfl
  | int _=>obtain ⟨t,rfl⟩:=r; rfl
  | str _=>obtain ⟨t,rfl⟩:=r; rfl
  | byt _=>obtain ⟨t,rfl⟩:=r; rfl
  | flt _=>obtain ⟨t,rfl⟩:=r; rfl
  | ref _=>cases r; rfl
  | ty _=>cases r; rfl
theorem RelV.inj {x y:V} {u:Value} (r:RelV x u) (q:RelV y u):x=y:=Option.some.inj (r.abs.symm.trans q.abs)
theorem Vals.inj:∀ {xs ys:List V} {us:List Value},Vals xs us->Vals ys us->xs=ys
  | _,_,_,.nil,.nil=>rfl
  | _,_,_,.cons r t,.cons r' t'=>by rw [r.inj r',Vals.inj t t']
section
variable {X:Cx} {pins:List (Addr × Obj)} {σ:St} {H:Hp} {s:Shared} {a:Addr} {xs ys:List V}
theorem SqL.of {K:PySem.W.Frag} (h:H a=some (.lst xs)):SqL K H a xs:=.inl (.inl h)
theorem SqT.of {K:PySem.W.Frag} (h:H a=some (.tup xs)):SqT K H a xs:=.inl (.inl h)
theorem Inv.list (I:Inv X pins σ H s) (h:SqL X.K H a xs):∃ its:List Value,Vals xs its/\PlainL s.heap a its.toArray/\xs.length<=sizeLine:=by
  rcases h with h | ⟨o,its,n,hk,hc,hd,hs,hz,r⟩
  · obtain ⟨z,its,n,r,e⟩:=h.ok I.hok
    exact ⟨its,r,⟨_,n,e,rfl,rfl,rfl⟩,z⟩
  · refine ⟨its.toList,r,⟨o,n,I.kIn a o hk,hc,hd,by simpa using hs⟩,?_⟩
    have e:=r.length
    simp only [Array.length_toList] at e
    omega
theorem Inv.tuple (I:Inv X pins σ H s) (h:SqT X.K H a xs):∃ its:List Value,Vals xs its/\IsTup s.heap a its.toArray/\xs.length<=sizeLine:=by
  rcases h with h | ⟨o,its,n,hk,hc,hs,hz,r⟩
  · obtain ⟨z,its,r,p⟩:=h.ok I.hok
    exact ⟨its,r,p,z⟩
  · refine ⟨its.toList,r,⟨o,I.kIn a o hk,hc,n,by simpa using hs⟩,?_⟩
    have e:=r.length
    simp only [Array.length_toList] at e
    omega
theorem Inv.list_inj (I:Inv X pins σ H s) (h:SqL X.K H a xs) (h':SqL X.K H a ys):xs=ys:=by
  obtain ⟨its,r,⟨o,n,e,_,_,d⟩,_⟩:=I.list h
  obtain ⟨its',r',⟨o',n',e',_,_,d'⟩,_⟩:=I.list h'
  rw [e] at e'; cases e'
  rw [d] at d'
  injection d' with d1 _
  have:its=its':=by simpa using congrArg Array.toList d1
  subst this
  exact r.inj r'
theorem Inv.tuple_inj (I:Inv X pins σ H s) (h:SqT X.K H a xs) (h':SqT X.K H a ys):xs=ys:=by
  obtain ⟨its,r,⟨o,e,_,n,d⟩,_⟩:=I.tuple h
  obtain ⟨its',r',⟨o',e',_,n',d'⟩,_⟩:=I.tuple h'
  rw [e] at e'; cases e'
  rw [d] at d'
  injection d' with d1 _
  have:its=its':=by simpa using congrArg Array.toList d1
  subst this
  exact r.inj r'
end
abbrev Cx.wish (X:Cx) (E:Value->Shared->Prop):Cx:={ X with xe:=E }
abbrev Cx.nox (X:Cx):Cx:=X.wish fun _ _=>False
theorem Cx.Ok.wish {X:Cx} (ok:X.Ok) (E:Value->Shared->Prop):(X.wish E).Ok:=
  ⟨ok.mod,ok.kind,ok.glob,ok.blt,ok.above,ok.inj,ok.has,ok.cab,ok.hd,ok.frames,ok.stk,ok.exf,ok.bs,ok.bsz,ok.noex,ok.exfs,ok.funs,ok.frf⟩
theorem Cx.Ok.unwish {X:Cx} {E:Value->Shared->Prop} (ok:(X.wish E).Ok):X.Ok:=
  ⟨ok.mod,ok.kind,ok.glob,ok.blt,ok.above,ok.inj,ok.has,ok.cab,ok.hd,ok.frames,ok.stk,ok.exf,ok.bs,ok.bsz,ok.noex,ok.exfs,ok.funs,ok.frf⟩
section
variable {X:Cx} {pins:List (Addr × Obj)} {σ:St} {H:Hp} {s:Shared} {E:Value->Shared->Prop}
theorem Inv.wish (I:Inv X pins σ H s) (E:Value->Shared->Prop):Inv (X.wish E) pins σ H s:=⟨I.ok.wish E,I.os,I.bare,I.base,I.loc,I.cell,I.free,I.freeC,I.pin,I.hok,I.len⟩
theorem Inv.unwish (I:Inv (X.wish E) pins σ H s):Inv X pins σ H s:=⟨I.ok.unwish,I.os,I.bare,I.base,I.loc,I.cell,I.free,I.freeC,I.pin,I.hok,I.len⟩
end
section
variable {X:Cx} {st:Stmt} {rest:List Stmt} {t u:TS} {e:Expr} {te:TE} {pos:Pos}
def tNext:TS:=fun D σ H=>D.nx σ H
def tSeq (t u:TS):TS:=fun D σ H=>t { D with nx:=u D } σ H
theorem pss_nil:PSs X [] tNext:=fun _ _ σ H _ I h=>wpAny_execs_nil ⟨σ,H,I,h⟩
theorem pss_cons (h1:PS X st t) (h2:PSs X rest u):PSs X (st :: rest) (tSeq t u):=by
  intro pins s σ H D I h
  refine wpAny_execs_cons (thn (h1 pins s σ H { D with nx:=u D } I h) fun f s1 q=>?_)
  cases f with
  | next=>
    obtain ⟨σ',H',I',q⟩:=q
    exact h2 pins s1 σ' H' D I' q
  | ret v=>exact q
  | brk=>exact q
  | cont=>exact q
theorem pss_one (h1:PS X st t):PSs X [st] t:=by
  intro pins s σ H D I h
  refine wpAny_execs_cons (thn (h1 pins s σ H D I h) fun f s1 q=>?_)
  cases f with
  | next=>exact wpAny_execs_nil q
  | ret v=>exact q
  | brk=>exact q
  | cont=>exact q
theorem Inv.quiet {pins:List (Addr × Obj)} {σ:St} {H:Hp} {s:Shared} (I:Inv X pins σ H s):interactive X.env=false:=by simp [interactive,I.ok.kind]
def tDrop (te:TE):TS:=fun D σ H=>te σ H fun _ H1=>D.nx σ H1
theorem ps_expr (he:PE X e te) (hs:swapsWith e none pos.line X.env=pure false:=by rfl):PS X (.Expr e pos) (tDrop te):=by
  intro pins s σ H D I h
  exact wpAny_Expr_any (thn (he pins s σ H _ I h) fun v s1 ⟨x,H1,I1,r1,q1⟩=>⟨σ,H1,I1,q1⟩) I.quiet hs
def tRet (te:TE):TS:=fun D σ H=>te σ H D.rt
theorem ps_ret (he:PE X e te):PS X (.Return (some e) pos) (tRet te):=by
  intro pins s σ H D I h
  exact wpAny_Return_some (thn (he pins s σ H _ I h) fun v s1 ⟨x,H1,I1,r1,q1⟩=>⟨x,σ,H1,I1,r1,q1⟩)
def tIfS (c:TT) (t u:TS):TS:=fun D σ H=>c σ H fun b H1=>if b=true then t D σ H1 else u D σ H1
theorem ps_if {c:Expr} {a b:List Stmt} {tc:TT} (hc:PT X c tc) (ha:PSs X a t) (hb:PSs X b u):PS X (.If c a b pos) (tIfS tc t u):=by
  intro pins s σ H D I h
  refine wpAny_If (thn (hc pins s σ H _ I h) fun d s1 ⟨H1,I1,q1⟩=>?_)
  cases d with
  | true=>exact ha pins s1 σ H1 D I1 q1
  | false=>exact hb pins s1 σ H1 D I1 q1
end
abbrev TG:=V->St->Hp->(St->Hp->Prop)->Prop
abbrev TGs:=List V->St->Hp->(St->Hp->Prop)->Prop
def PG (X:Cx) (target:Expr) (t:TG):Prop:=
  ∀ (pins:List (Addr × Obj)) (s:Shared) (σ:St) (H:Hp) (v:V) (u:Value) (Q:St->Hp->Prop),Inv X pins σ H s->RelV v u->t v σ H Q ->
    wpAny (model X.prog X.w) X.A (assign target X.env u) (fun _ s'=>∃ σ' H',Inv X pins σ' H' s'/\Q σ' H') X.xe s
def PGs (X:Cx) (ts:List Expr) (t:TGs):Prop:=
  ∀ (pins:List (Addr × Obj)) (s:Shared) (σ:St) (H:Hp) (vs:List V) (us:List Value) (Q:St->Hp->Prop),Inv X pins σ H s->Vals vs us->t vs σ H Q ->
    wpAny (model X.prog X.w) X.A (assignInOrder ((assignEach ts X.env).map (·.2)) us) (fun _ s'=>∃ σ' H',Inv X pins σ' H' s'/\Q σ' H') X.xe s
abbrev TSet:=V->V->V->Hp->(Hp->Prop)->Prop
def PSet (X:Cx) (t:TSet):Prop:=
  ∀ (pins:List (Addr × Obj)) (s:Shared) (σ:St) (H:Hp) (o i v:V) (ov iv u:Value) (Q:Hp->Prop),Inv X pins σ H s->RelV o ov->RelV i iv->RelV v u->t o i v H Q ->
    wpAny (model X.prog X.w) X.A (setItem ov iv u) (fun _ s'=>∃ H',Inv X pins σ H' s'/\Q H') X.xe s
section
variable {X:Cx} {pos:Pos}
def gName (i:Nat):TG:=fun v σ H Q=>Q (σ.set i (some v)) H
theorem pg_name {i:Nat} {x:Str} (hN:X.N.Nodup) (hi:X.N[i]?=some x) (hx:Loc X.env.scope x) (hf:X.fn x=true\/X.env.scope.names.lookup x=some .local:=by first | exact .inl rfl | exact .inr rfl | assumption):PG X (.Name x pos) (gName i):=by
  intro pins s σ H v u Q I r h
  exact wpAny_assign_Name (store_ok I hN hi hx r (fun s' I'=>⟨_,H,I',h⟩) hf)
def gNil:TGs:=fun vs σ H Q=>vs=[]/\Q σ H
def gCons (t:TG) (u:TGs):TGs:=fun vs σ H Q=>∃ v r,vs=v :: r/\t v σ H fun σ' H'=>u r σ' H' Q
theorem pgs_nil:PGs X [] gNil:=by
  intro pins s σ H vs us Q I r h
  obtain ⟨e,h⟩:=h
  subst e
  cases r
  exact assignInOrder_nil ⟨σ,H,I,h⟩
theorem pgs_cons {e:Expr} {es:List Expr} {t:TG} {u:TGs} (h1:PG X e t) (h2:PGs X es u)
    (hs:(assignEach (e :: es) X.env).map (·.2)=assign e X.env :: (assignEach es X.env).map (·.2):=by rfl):PGs X (e :: es) (gCons t u):=by
  intro pins s σ H vs us Q I r h
  obtain ⟨v,vr,e1,h⟩:=h
  subst e1
  cases r with
  | cons r rr=>
    rw [hs]
    refine assignInOrder_cons (thn (h1 pins s σ H _ _ _ I r h) fun _ s1 ⟨σ1,H1,I1,q1⟩=>?_)
    exact h2 pins s1 σ1 H1 _ _ Q I1 rr q1
def gTup (K:PySem.W.Frag) (n:Nat) (t:TGs):TG:=fun v σ H Q=>∃ a xs,v=.ref a/\SqT K H a xs/\xs.length=n/\t xs σ H Q
theorem pg_tup {es:List Expr} {k:Nat} {t:TGs} {n:Nat} (hc:X.calm=true) (h:PGs X es t)
    (hn:(assignEach es X.env).length=n:=by rfl) (hst:(assignEach es X.env).findIdx? (·.1)=none:=by rfl):PG X (.Tuple es k pos) (gTup X.K n t):=by
  intro pins s σ H v u Q I r hw
  obtain ⟨a,xs,e1,hq,hl,hw⟩:=hw
  subst e1
  cases r
  obtain ⟨its,rv,ht,hz⟩:=I.tuple hq
  refine assign_Tuple_tuple (I.ok.hd hc) ht (by simp [hn,<- hl,rv.length]) hst fun h' hx=>?_
  have I1:Inv X pins σ H { s with heap:=h' }:=I.kept (t':=s.toks) fun b o e=>hx b o (Nat.ne_of_lt (Heap.lt_size e)) e
  exact h pins _ σ H xs _ Q I1 (by simpa using rv) hw
def gSub (to ti:TE) (t:TSet):TG:=fun v σ H Q=>to σ H fun o H1=>ti σ H1 fun i H2=>t o i v H2 fun H3=>Q σ H3
theorem pg_sub {o i:Expr} {to ti:TE} {t:TSet} (ho:PE X o to) (hi:PE X i ti) (hs:PSet X t)
    (ha:∀ v,assign (.Subscript o i pos) X.env v=(do
      let ov <- holding [v] (eval o X.env)
      let iv <- holding [v,ov] (eval i X.env)
      standAt pos
      holding [v,ov,iv] (setItem ov iv v)
      release [v,ov,iv] []):=by intro _; rfl):PG X (.Subscript o i pos) (gSub to ti t):=by
  intro pins s σ H v u Q I r h
  rw [ha]
  refine wpAny_bind (wpAny_holding (thn (ho pins s σ H _ I h) fun ov s1 ⟨x,H1,I1,r1,q1⟩=>?_))
  refine wpAny_bind (wpAny_holding (thn (hi pins s1 σ H1 _ I1 q1) fun iv s2 ⟨y,H2,I2,r2,q2⟩=>?_))
  refine wpAny_bind (wpAny_standAt (wpAny_bind (wpAny_holding (thn (hs pins s2 σ H2 x y v ov iv u _ I2 r1 r2 r q2) fun _ s3 ⟨H3,I3,q3⟩=>?_))))
  exact wpAny_release ⟨σ,H3,I3,q3⟩
def tAsg (te:TE) (g:TG):TS:=fun D σ H=>te σ H fun x H1=>g x σ H1 D.nx
theorem ps_asg {tg e:Expr} {te:TE} {g:TG} (he:PE X e te) (hg:PG X tg g) (hs:swapsWithSole [tg] e pos.line X.env=pure false:=by rfl) (hw:swappedStores [tg] e X.env=pure none:=by rfl)
    (h1:(assignEach [tg] X.env).map (·.2)=[assign tg X.env]:=by rfl):PS X (.Assign [tg] e pos) (tAsg te g):=by
  intro pins s σ H D I h
  refine wpAny_Assign_stores (thn (he pins s σ H _ I h) fun v s1 ⟨x,H1,I1,r1,q1⟩=>?_) hs hw
  rw [h1]
  exact thn (hg pins s1 σ H1 x v _ I1 r1 q1) fun _ s2 q=>q
theorem ps_set {i:Nat} {x:Str} {e:Expr} {te:TE} {pos':Pos} (hN:X.N.Nodup) (hi:X.N[i]?=some x) (hx:Loc X.env.scope x) (he:PE X e te) (hs:swapsWith e (some (.Name x pos')) pos.line X.env=pure false:=by rfl) (hf:X.fn x=true\/X.env.scope.names.lookup x=some .local:=by first | exact .inl rfl | exact .inr rfl | assumption) :
    PS X (.Assign [.Name x pos'] e pos) (tAsg te (gName i)):=by
  intro pins s σ H D I h
  refine wpAny_Assign_Name (thn (he pins s σ H _ I h) fun v s1 ⟨y,H1,I1,r1,q1⟩=>?_) hs
  exact store_ok I1 hN hi hx r1 (fun s2 I2=>⟨_,H1,I2,q1⟩) hf
end
section
variable {X:Cx} {pos:Pos}
def tWhile (c:TT) (tb:TS):TS:=fun D σ H=>∃ W:Nat->St->Hp->Prop,(∃ m,W m σ H)/\∀ m σ H,W m σ H ->
  c σ H fun b H1=>if b=true then ∃ N:St->Hp->Prop,(∀ σ' H',N σ' H'->∃ m',m' < m/\W m' σ' H')/\tb { D with nx:=N,ct:=N,bk:=D.nx } σ H1 else D.nx σ H1
theorem ps_while {c:Expr} {body:List Stmt} {tc:TT} {tb:TS} (hp:PassesOwn (model X.prog X.w) X.A X.env X.xe) (hc:PT X c tc) (hb:PSs X body tb):PS X (.While c body [] pos) (tWhile tc tb):=by
  intro pins s σ H D I h
  obtain ⟨W,⟨m0,w0⟩,turn⟩:=h
  refine wpAny_While (codeAny_whileLoop (fun n s'=>∃ σ' H',Inv X pins σ' H' s'/\W n σ' H') ?_ m0 ⟨σ,H,I,w0⟩)
  rintro n s1 ⟨σ1,H1,I1,w1⟩
  refine wpAny_passesOwn hp (thn (hc pins s1 σ1 H1 _ I1 (turn n σ1 H1 w1)) fun b s2 ⟨H2,I2,q2⟩=>?_)
  cases b with
  | true=>
    obtain ⟨N,hN,q2⟩:=q2
    rw [if_pos rfl]
    refine wpAny_passesOwn hp (thn (hb pins s2 σ1 H2 _ I2 q2) fun f s3 q3=>?_)
    cases f with
    | next=>
      obtain ⟨σ3,H3,I3,n3⟩:=q3
      obtain ⟨m',hm,w3⟩:=hN σ3 H3 n3
      exact ⟨m',hm,σ3,H3,I3,w3⟩
    | cont=>
      obtain ⟨σ3,H3,I3,n3⟩:=q3
      obtain ⟨m',hm,w3⟩:=hN σ3 H3 n3
      exact ⟨m',hm,σ3,H3,I3,w3⟩
    | brk=>exact q3
    | ret v=>exact q3
  | false=>
    rw [if_neg Bool.false_ne_true]
    exact wpAny_execs_nil ⟨σ1,H2,I2,q2⟩
end
structure It where
  go:Nat->Hp->Prop
  yld:Nat->Hp->V->Hp->Prop
  stop:Nat->Hp->Prop
def FpOk (X:Cx) (pins:List (Addr × Obj)) (H:Hp) (b:Addr):Prop:=
  H b=none/\b ≠ X.env.locals/\b ∉ X.fs/\(b ∈ X.ex\/X.s₀.heap.objs.size<=b)/\(∀ x c,X.env.cells.lookup x=some c->c ≠ b)/\∀ p ∈ X.pn ++ pins,p.1 ≠ b
theorem Inv.fpOk {X:Cx} {pins:List (Addr × Obj)} {σ:St} {H H':Hp} {s:Shared} {b:Addr} (I:Inv X pins σ H s) (hb:s.heap.objs.size<=b) (hn:H' b=none):FpOk X pins H' b:=by
  refine ⟨hn,Nat.ne_of_gt (Nat.lt_of_lt_of_le I.lt hb),I.nofs hb,.inr (Nat.le_trans I.sz hb),fun x c e z=>?_,fun p hp z=>?_⟩
  · obtain ⟨v,q⟩:=I.cell x c e
    exact absurd (Nat.lt_of_lt_of_le q.lt (by rw [z]; exact hb)) (Nat.lt_irrefl _)
  · exact absurd (Nat.lt_of_lt_of_le (Heap.lt_size (I.pin p hp).1) (by rw [z]; exact hb)) (Nat.lt_irrefl _)
structure Turn (P:Program) (w:World) (K:PySem.W.Frag) (tg:Expr) (J:It) (fp:List Addr) (it:Addr) (tn:Nat->Heap->Prop):Prop where
  mem:it ∈ fp
  obj:∀ i h,tn i h->∀ b ∈ fp,∃ o,h.get? b=some o/\∀ v,o.data ≠ .cell v
  keep:∀ i h h',tn i h->(∀ b ∈ fp,∀ o,h.get? b=some o->h'.get? b=some o)->tn i h'
  item:∀ (X:Cx),X.prog=P->X.w=w->X.K=K->X.calm=true->∀ (i:Nat) (pins:List (Addr × Obj)) (s:Shared) (σ:St) (H:Hp) (E:Value->Shared->Prop),Inv X pins σ H s->(∀ b ∈ fp,FpOk X pins H b)->tn i s.heap->J.go i H ->
    wpAny (model P w) X.A (pyNext (.ref it)) (fun r s1=>∃ u,r=some u /\
      wpAny (model P w) X.A (letOwnedTupleGo tg (.ref it) u) (fun _ s2=>∃ x H',Inv X pins σ H' s2/\RelV x u/\J.yld i H x H'/\tn (i + 1) s2.heap/\∀ b ∈ fp,H' b=none) E s1) E s
  done:∀ (X:Cx),X.prog=P->X.w=w->X.K=K->X.calm=true->∀ (i:Nat) (pins:List (Addr × Obj)) (s:Shared) (σ:St) (H:Hp) (E:Value->Shared->Prop),Inv X pins σ H s->(∀ b ∈ fp,FpOk X pins H b)->tn i s.heap->J.stop i H ->
    wpAny (model P w) X.A (pyNext (.ref it)) (fun r s1=>r=none/\Inv X pins σ H s1) E s
  self:∀ (A:Around) (i:Nat) (s:Shared) (Q:Value->Shared->Prop) (E:Value->Shared->Prop),tn i s.heap->Q (.ref it) s->wpAny (model P w) A (pyIter (.ref it)) Q E s
abbrev TI:=St->Hp->(It->Hp->Prop)->Prop
def PIE (X:Cx) (pins:List (Addr × Obj)) (σ:St) (tg:Expr) (R:It->Hp->Prop) (itv:Value) (s2:Shared):Prop:=
  ∃ (it:Addr) (fp:List Addr) (tn:Nat->Heap->Prop) (J:It) (H':Hp),itv=.ref it/\Inv X pins σ H' s2/\Turn X.prog X.w X.K tg J fp it tn/\tn 0 s2.heap/\(∀ b ∈ fp,FpOk X pins H' b)/\R J H'
def PI (X:Cx) (tg iter:Expr) (wi:TI):Prop:=
  ∀ (pins:List (Addr × Obj)) (s:Shared) (σ:St) (H:Hp) (R:It->Hp->Prop),Inv X pins σ H s->wi σ H R ->
    wpAny (model X.prog X.w) X.A (eval iter X.env) (fun v s1=>wpAny (model X.prog X.w) X.A (pyIter v) (PIE X pins σ tg R) X.xe s1) X.xe s
theorem go_of {M:Model} {A:Around} {E:Value->Shared->Prop} {s:Shared} {tg:Expr} {it:Addr} {u:Value} {o:Obj} {n:String} {vs:Array Value} {Q:Unit->Shared->Prop} (ho:s.heap.get? it=some o) (hc:o.cls=.type n) (hd:o.data=.fields vs)
    (hn:["enumerate", "zip", "dict_itemiterator", "dict_reverseitemiterator", "odict_iterator", "itertools.zip_longest", "itertools.pairwise"].contains n=false) (hQ:Q () s):wpAny M A (letOwnedTupleGo tg (.ref it) u) Q E s:=by
  unfold letOwnedTupleGo
  cases tg <;> first
    | exact wpAny_pure hQ
    | (cases u <;> first
        | exact wpAny_pure hQ
        | (refine wpAny_bind (wpAny_load ho ?_)
           rw [hc,hd]
           show wpAny M A (if (["enumerate", "zip", "dict_itemiterator", "dict_reverseitemiterator", "odict_iterator", "itertools.zip_longest", "itertools.pairwise"].contains n && vs[0]? == some (rawInt _))=true then _ else _) Q E s
           rw [if_neg (by intro h; rw [hn,Bool.false_and] at h; cases h)]
           exact wpAny_pure hQ))
def Itl (K:PySem.W.Frag) (a:Addr):It:=
  ⟨fun i H=>∃ xs x,SqL K H a xs/\xs[i]?=some x,fun i H x H'=>H'=H/\∀ xs,SqL K H a xs->xs[i]?=some x,fun i H=>∃ xs,SqL K H a xs/\xs.length<=i⟩
def Itt (K:PySem.W.Frag) (a:Addr):It:=
  ⟨fun i H=>∃ xs x,SqT K H a xs/\xs[i]?=some x,fun i H x H'=>H'=H/\∀ xs,SqT K H a xs->xs[i]?=some x,fun i H=>∃ xs,SqT K H a xs/\xs.length<=i⟩
def Itr (lo:Int) (n:Nat):It:=⟨fun i _=>i < n,fun i H x H'=>H'=H/\x=.int (lo + i),fun i _=>n<=i⟩
theorem turn_list {P:Program} {w:World} {K:PySem.W.Frag} {tg:Expr} (a it:Addr):Turn P w K tg (Itl K a) [it] it (fun i h=>h.IsListIter it a i) where
  mem:=by simp
  obj:=fun i h st b hb=>by
    have e:b=it:=by simpa using hb
    subst e
    obtain ⟨o,e,c,d⟩:=st
    exact ⟨o,e,fun v z=>by rw [d] at z; cases z⟩
  keep:=fun i h h' st k=>st.at fun o e=>k it (by simp) o e
  item:=by
    intro X hP hw hK hc i pins s σ H E I hf st hg
    subst hP hw hK
    obtain ⟨xs,x,hq,hx⟩:=hg
    obtain ⟨its,rv,p,hz⟩:=I.list hq
    obtain ⟨u,hu,ru⟩:=rv.get hx
    obtain ⟨f0,f1,f2,f3,f4,f5⟩:=hf it (by simp)
    refine wpAny_pyNext_list_item st p.isList (x:=u) (by simpa using hu) fun h' st' sb=>?_
    have I1:Inv X pins σ H { s with heap:=h' }:=I.turned (t':=s.toks) (fun b o hb e=>(sb.2 b hb).trans e) f0 f1 f3 f4 f5
    obtain ⟨o,e,c,d⟩:=id st'
    exact ⟨u,rfl,go_of (s:={ s with heap:=h' }) e c d (by decide) ⟨x,H,I1,ru,⟨rfl,fun ys hy=>by rw [I.list_inj hy hq]; exact hx⟩,st',fun b hb=>(hf b hb).1⟩⟩
  done:=by
    intro X hP hw hK hc i pins s σ H E I hf st hg
    subst hP hw hK
    obtain ⟨xs,hq,hx⟩:=hg
    obtain ⟨its,rv,p,hz⟩:=I.list hq
    obtain ⟨f0,f1,f2,f3,f4,f5⟩:=hf it (by simp)
    have hl:=rv.length
    exact wpAny_pyNext_list_end (I.ok.hd hc) st p.isList (by simp; omega) fun h' eb=>⟨rfl,I.turned (t':=s.toks) (fun b o hb e=>eb b o hb e) f0 f1 f3 f4 f5⟩
  self:=fun _ _ _ _ _ st h=>wpAny_pyIter_listiter st h
theorem turn_tuple {P:Program} {w:World} {K:PySem.W.Frag} {tg:Expr} (a it:Addr):Turn P w K tg (Itt K a) [it] it (fun i h=>h.IsTupleIter it a i) where
  mem:=by simp
  obj:=fun i h st b hb=>by
    have e:b=it:=by simpa using hb
    subst e
    obtain ⟨o,e,c,d⟩:=st
    exact ⟨o,e,fun v z=>by rw [d] at z; cases z⟩
  keep:=fun i h h' st k=>st.at fun o e=>k it (by simp) o e
  item:=by
    intro X hP hw hK hc i pins s σ H E I hf st hg
    subst hP hw hK
    obtain ⟨xs,x,hq,hx⟩:=hg
    obtain ⟨its,rv,p,hz⟩:=I.tuple hq
    obtain ⟨u,hu,ru⟩:=rv.get hx
    obtain ⟨f0,f1,f2,f3,f4,f5⟩:=hf it (by simp)
    refine wpAny_pyNext_tuple_item st (show s.heap.IsTuple a its.toArray from p) (x:=u) (by simpa using hu) fun h' st' sb=>?_
    have I1:Inv X pins σ H { s with heap:=h' }:=I.turned (t':=s.toks) (fun b o hb e=>(sb.2 b hb).trans e) f0 f1 f3 f4 f5
    obtain ⟨o,e,c,d⟩:=id st'
    exact ⟨u,rfl,go_of (s:={ s with heap:=h' }) e c d (by decide) ⟨x,H,I1,ru,⟨rfl,fun ys hy=>by rw [I.tuple_inj hy hq]; exact hx⟩,st',fun b hb=>(hf b hb).1⟩⟩
  done:=by
    intro X hP hw hK hc i pins s σ H E I hf st hg
    subst hP hw hK
    obtain ⟨xs,hq,hx⟩:=hg
    obtain ⟨its,rv,p,hz⟩:=I.tuple hq
    obtain ⟨f0,f1,f2,f3,f4,f5⟩:=hf it (by simp)
    have hl:=rv.length
    exact wpAny_pyNext_tuple_end (I.ok.hd hc) st (show s.heap.IsTuple a its.toArray from p) (by simp; omega) fun h' eb=>⟨rfl,I.turned (t':=s.toks) (fun b o hb e=>eb b o hb e) f0 f1 f3 f4 f5⟩
  self:=fun _ _ _ _ _ st h=>wpAny_pyIter_tupleiter st h
theorem turn_range {P:Program} {w:World} {K:PySem.W.Frag} {tg:Expr} (it:Addr) (lo:Int) (n:Nat):Turn P w K tg (Itr lo n) [it] it (fun i h=>IsRangeIter h it (lo + (i:Nat) * 1) ((n:Int) - (i:Nat)) 1) where
  mem:=by simp
  obj:=fun i h st b hb=>by
    have e:b=it:=by simpa using hb
    subst e
    exact ⟨_,st,fun v z=>by
      have z':Data.fields _=Data.cell v:=z
      cases z'⟩
  keep:=fun i h h' st k=>k it (by simp) _ st
  item:=by
    intro X hP hw hK hc i pins s σ H E I hf st hg
    subst hP hw hK
    obtain ⟨f0,f1,f2,f3,f4,f5⟩:=hf it (by simp)
    have W:=Walks.range (prog:=X.prog) (w:=X.w) (I.ok.hd hc) it lo 1 n
    refine W.item i s _ _ hg st fun v h' tk hv st' kk=>?_
    obtain ⟨t,rfl⟩:=hv
    have I1:Inv X pins σ H { s with heap:=h',toks:=tk }:=I.turned (fun b o hb e=>kk b o (by simpa using hb) e) f0 f1 f3 f4 f5
    refine ⟨_,rfl,go_of (s:={ s with heap:=h',toks:=tk }) (n := "range_iterator") st' rfl rfl (by decide) ⟨.int (lo + i),H,I1,⟨t,?_⟩,⟨rfl,rfl⟩,st',fun b hb=>(hf b hb).1⟩⟩
    rw [Int.mul_one]
  done:=by
    intro X hP hw hK hc i pins s σ H E I hf st hg
    subst hP hw hK
    obtain ⟨f0,f1,f2,f3,f4,f5⟩:=hf it (by simp)
    exact wpAny_pyNext_range_end (I.ok.hd hc) st (by have:n<=i:=hg; omega) fun h' eb=>⟨rfl,I.turned (t':=s.toks) (fun b o hb e=>eb b o hb e) f0 f1 f3 f4 f5⟩
  self:=fun _ _ _ _ _ st h=>wpAny_pyIter_rangeiter st h
end L2
namespace L2
open PySem PySem.Spec PyProof.Rows
section
variable {X:Cx} {tg:Expr}
def iList (K:PySem.W.Frag) (tl:TE):TI:=fun σ H R=>tl σ H fun x H1=>∃ a,x=.ref a/\(∃ xs,SqL K H1 a xs)/\R (Itl K a) H1
def iTup (K:PySem.W.Frag) (tl:TE):TI:=fun σ H R=>tl σ H fun x H1=>∃ a,x=.ref a/\(∃ xs,SqT K H1 a xs)/\R (Itt K a) H1
theorem pi_list {l:Expr} {tl:TE} (hl:PE X l tl):PI X tg l (iList X.K tl):=by
  intro pins s σ H R I h
  refine thn (hl pins s σ H _ I h) fun v s1 ⟨x,H1,I1,r1,q1⟩=>?_
  obtain ⟨a,e,⟨xs,hq⟩,q⟩:=q1
  subst e
  cases r1
  obtain ⟨its,rv,p,hz⟩:=I1.list hq
  refine wpAny_pyIter_list p.isList ?_
  refine ⟨s1.heap.objs.size,[s1.heap.objs.size],_,_,H1,rfl,I1.kept (t':=s1.toks) fun b o e=>Heap.get?_push_of_some _ e,turn_list a _,⟨_,Heap.get?_push_size _ rfl,rfl,rfl⟩,fun b hb=>?_,q⟩
  have e:b=s1.heap.objs.size:=by simpa using hb
  subst e
  exact I1.fpOk (Nat.le_refl _) (I1.hok.fresh (Nat.le_refl _))
theorem pi_tup {l:Expr} {tl:TE} (hl:PE X l tl):PI X tg l (iTup X.K tl):=by
  intro pins s σ H R I h
  refine thn (hl pins s σ H _ I h) fun v s1 ⟨x,H1,I1,r1,q1⟩=>?_
  obtain ⟨a,e,⟨xs,hq⟩,q⟩:=q1
  subst e
  cases r1
  obtain ⟨its,rv,p,hz⟩:=I1.tuple hq
  refine wpAny_pyIter_tuple (show s1.heap.IsTuple a its.toArray from p) ?_
  refine ⟨s1.heap.objs.size,[s1.heap.objs.size],_,_,H1,rfl,I1.kept (t':=s1.toks) fun b o e=>Heap.get?_push_of_some _ e,turn_tuple a _,⟨_,Heap.get?_push_size _ rfl,rfl,rfl⟩,fun b hb=>?_,q⟩
  have e:b=s1.heap.objs.size:=by simpa using hb
  subst e
  exact I1.fpOk (Nat.le_refl _) (I1.hok.fresh (Nat.le_refl _))
theorem range_it {pins:List (Addr × Obj)} {σ:St} {H:Hp} {s:Shared} {R:It->Hp->Prop} {E:Value->Shared->Prop} {lo hi:Int} {t u v:Tok} {tk:Nat} (I:Inv X pins σ H s) (h1:-(2 ^ 62)<=lo) (h2:lo < 2 ^ 62) (h3:-(2 ^ 62)<=hi) (h4:hi < 2 ^ 62)
    (q:R (Itr lo (hi - lo).toNat) H):wpAny (model X.prog X.w) X.A (pyIter (.ref s.heap.objs.size)) (PIE X pins σ tg R) E { s with heap:=s.heap.push { cls:=.type "range",data:=.fields #[.int lo t,.int hi u,.int 1 v] },toks:=tk }:=by
  refine wpAny_pyIter_range (IsRange.new ..) (small_one h1 h2 h3 h4) ?_
  have I1:Inv X pins σ H { s with heap:=s.heap.push { cls:=.type "range",data:=.fields #[.int lo t,.int hi u,.int 1 v] },toks:=tk }:=I.kept fun b o e=>Heap.get?_push_of_some _ e
  refine ⟨(s.heap.push { cls:=.type "range",data:=.fields #[.int lo t,.int hi u,.int 1 v] }).objs.size,[(s.heap.push { cls:=.type "range",data:=.fields #[.int lo t,.int hi u,.int 1 v] }).objs.size],_,_,H,rfl,
    I1.kept (t':=tk) fun b o e=>Heap.get?_push_of_some _ e,turn_range _ lo (hi - lo).toNat,?_,fun b hb=>?_,q⟩
  · have e1:lo + ((0:Nat):Int) * 1=lo:=by simp
    have e2:(((hi - lo).toNat:Nat):Int) - ((0:Nat):Int)=Builtin.Range.rangeSize lo hi 1:=by rw [rangeSize_one]; split <;> omega
    show IsRangeIter _ _ (lo + ((0:Nat):Int) * 1) ((((hi - lo).toNat:Nat):Int) - ((0:Nat):Int)) 1
    rw [e1,e2]
    exact Heap.get?_push_size _ rfl
  · have e:b=(s.heap.push { cls:=.type "range",data:=.fields #[.int lo t,.int hi u,.int 1 v] }).objs.size:=by simpa using hb
    subst e
    exact I1.fpOk (Nat.le_refl _) (I1.hok.fresh (Nat.le_refl _))
def iRng1 (ta:TA):TI:=fun σ H R=>ta σ H fun vs H1=>∃ j:Int,vs=[.int j]/\-(2 ^ 62)<=j/\j < 2 ^ 62/\R (Itr 0 j.toNat) H1
theorem pi_range1 {a:Expr} {ta:TA} {p pos:Pos} (hg:Gl X "range") (hm:X.mg "range" = none) (ha:PA X [a] ta) (hs:starEach [a] X.env=[(false,eval a X.env)]:=by rfl):PI X tg (.Call (.Name "range" p) [a] [] pos) (iRng1 ta):=by
  intro pins s σ H R I h
  refine Call_ (ld_blt I hg hm boot_range (PyProof.Rows.callWith_type1 (thn (ha pos pins s σ H _ I h) fun us s1 ⟨vs,H1,I1,r1,q1⟩=>?_) hs rfl))
  obtain ⟨j,e,q1,q2,q⟩:=q1
  subst e
  cases r1 with
  | cons r rr=>
    cases rr
    obtain ⟨t,rfl⟩:=r
    exact call_range_1 (range_it I1 (by omega) (by omega) q1 q2 (by simpa using q))
def tFor (wi:TI) (g:TG) (tb:TS):TS:=fun D σ H=>wi σ H fun J H1=>∃ W:Nat->Nat->St->Hp->Prop,(∃ m,W 0 m σ H1)/\∀ i m σ H,W i m σ H ->
  (J.stop i H/\D.nx σ H)\/(J.go i H/\∃ N:St->Hp->Prop,(∀ σ' H',N σ' H'->∃ m',m' < m/\W (i + 1) m' σ' H')/\∀ x H',J.yld i H x H'->g x σ H' fun σ2 H2=>tb { D with nx:=N,ct:=N,bk:=D.nx } σ2 H2)
def pinsAt (fp:List Addr) (h:Heap):List (Addr × Obj):=fp.filterMap fun b=>(h.get? b).map fun o=>(b,o)
theorem mem_pinsAt {fp:List Addr} {h:Heap} {b:Addr} {o:Obj} (hb:b ∈ fp) (e:h.get? b=some o):(b,o) ∈ pinsAt fp h:=List.mem_filterMap.mpr ⟨b,hb,by rw [e]; rfl⟩
theorem of_pinsAt {fp:List Addr} {h:Heap} {p:Addr × Obj} (hp:p ∈ pinsAt fp h):p.1 ∈ fp/\h.get? p.1=some p.2:=by
  obtain ⟨b,hb,e⟩:=List.mem_filterMap.mp hp
  cases q:h.get? b with
  | none=>rw [q] at e; cases e
  | some o=>
    rw [q] at e
    have e':(b,o)=p:=Option.some.inj e
    subst e'
    exact ⟨hb,q⟩
theorem Inv.pinned {pins:List (Addr × Obj)} {σ:St} {H:Hp} {s:Shared} {fp:List Addr} (I:Inv X pins σ H s) (hf:∀ b ∈ fp,FpOk X pins H b) (ho:∀ b ∈ fp,∃ o,s.heap.get? b=some o/\∀ v,o.data ≠ .cell v):Inv X (pins ++ pinsAt fp s.heap) σ H s:=
  I.pins_of fun p hp=>(List.mem_append.mp hp).elim (fun z=>I.pin p (List.mem_append_right _ z)) fun z=>by
    obtain ⟨hb,e⟩:=of_pinsAt z
    obtain ⟨f0,f1,f2,_⟩:=hf p.1 hb
    obtain ⟨o,e',d⟩:=ho p.1 hb
    rw [e] at e'; cases e'
    exact ⟨e,f0,f1,f2,d⟩
theorem Inv.unpinned {pins pl:List (Addr × Obj)} {σ:St} {H:Hp} {s:Shared} (I:Inv X (pins ++ pl) σ H s):Inv X pins σ H s:=I.pins_of fun p hp=>I.pin p (List.mem_append_right _ (List.mem_append_left _ hp))
theorem ps_for {iter:Expr} {body:List Stmt} {wi:TI} {g:TG} {tb:TS} {pos:Pos} (hp:PassesOwn (model X.prog X.w) X.A X.env X.xe) (hc:X.calm=true) (hi:PI X tg iter wi) (hg:PG X tg g) (hb:PSs X body tb)
    (hs:∀ x,foldedSetIterable iter X.env x=pure x:=by intro _; rfl):PS X (.For tg iter body [] pos) (tFor wi g tb):=by
  intro pins s σ H D I h
  refine wpAny_For (thn (hi pins s σ H _ I h) fun v s1 h1=>thn h1 fun itv s2 h2=>?_) hs
  obtain ⟨it,fp,tn,J,H2,e,I2,T,st2,f2,W,⟨m0,w0⟩,turn⟩:=h2
  subst e
  have stat:∀ {H':Hp},(∀ b ∈ fp,H' b=none)->∀ b ∈ fp,FpOk X pins H' b:=fun hn b hb=>⟨hn b hb,(f2 b hb).2⟩
  refine codeAny_forLoop_any (fun n s'=>∃ i σ' H',Inv X pins σ' H' s'/\tn i s'.heap/\(∀ b ∈ fp,H' b=none)/\W i n σ' H') ?_ m0 ⟨0,σ,H2,I2,st2,fun b hb=>(f2 b hb).1,w0⟩
  rintro n s3 ⟨i,σ3,H3,I3,st3,fr3,w3⟩
  rcases turn i n σ3 H3 w3 with ⟨stop,qn⟩ | ⟨go,N,hN,step⟩
  · refine wpAny_passesOwn hp (thn (T.done X rfl rfl rfl hc i pins s3 σ3 H3 X.xe I3 (stat fr3) st3 stop) fun r s4 ⟨hr,I4⟩=>?_)
    subst hr
    exact wpAny_execs_nil ⟨σ3,H3,I4,qn⟩
  · refine wpAny_passesOwn hp (thn (T.item X rfl rfl rfl hc i pins s3 σ3 H3 X.xe I3 (stat fr3) st3 go) fun r s4 ⟨u,hr,h4⟩=>?_)
    subst hr
    refine wpAny_passesOwn hp (thn h4 fun _ s5 ⟨x,H5,I5,r5,y5,st5,fr5⟩=>?_)
    have I5':=I5.pinned (stat fr5) (T.obj _ _ st5)
    refine wpAny_passesOwn hp (thn (hg _ s5 σ3 H5 x u _ I5' r5 (step x H5 y5)) fun _ s6 ⟨σ6,H6,I6,q6⟩=>?_)
    refine wpAny_passesOwn hp (thn (hb _ s6 σ6 H6 _ I6 q6) fun f s7 q7=>?_)
    have again:∀ {σ7:St} {H7:Hp},Inv X (pins ++ pinsAt fp s5.heap) σ7 H7 s7->N σ7 H7->∃ m,m < n/\∃ i σ' H',Inv X pins σ' H' s7/\tn i s7.heap/\(∀ b ∈ fp,H' b=none)/\W i m σ' H':=fun {σ7 H7} I7 n7=>by
      obtain ⟨m',hm,w7⟩:=hN σ7 H7 n7
      refine ⟨m',hm,i + 1,σ7,H7,I7.unpinned,T.keep _ _ _ st5 fun b hb o e=>(I7.pin (b,o) (List.mem_append_right _ (List.mem_append_right _ (mem_pinsAt hb e)))).1,fun b hb=>?_,w7⟩
      obtain ⟨o,e,d⟩:=T.obj _ _ st5 b hb
      exact (I7.pin (b,o) (List.mem_append_right _ (List.mem_append_right _ (mem_pinsAt hb e)))).2.1
    cases f with
    | next=>obtain ⟨σ7,H7,I7,n7⟩:=q7; exact again I7 n7
    | cont=>obtain ⟨σ7,H7,I7,n7⟩:=q7; exact again I7 n7
    | brk=>obtain ⟨σ7,H7,I7,q7⟩:=q7; exact ⟨σ7,H7,I7.unpinned,q7⟩
    | ret v=>obtain ⟨x7,σ7,H7,I7,r7,q7⟩:=q7; exact ⟨x7,σ7,H7,I7.unpinned,r7,q7⟩
end
end L2
namespace L2
open PySem PySem.Spec PyProof.Rows
abbrev R2:=V->V->Hp->VK->Prop
def OpR (X:Cx) (f:Value->Value->Sem Value) (r:R2):Prop:=
  ∀ (pins:List (Addr × Obj)) (s:Shared) (σ:St) (H:Hp) (x y:V) (v u:Value) (Q:VK),Inv X pins σ H s->RelV x v->RelV y u->r x y H Q ->
    wpAny (model X.prog X.w) X.A (f v u) (EP X pins σ Q) X.xe s
def UnR (X:Cx) (f:Value->Sem Value) (r:V->Hp->VK->Prop):Prop:=
  ∀ (pins:List (Addr × Obj)) (s:Shared) (σ:St) (H:Hp) (x:V) (v:Value) (Q:VK),Inv X pins σ H s->RelV x v->r x H Q ->
    wpAny (model X.prog X.w) X.A (f v) (EP X pins σ Q) X.xe s
def CallR (X:Cx) (f:Value) (r:List V->Hp->VK->Prop):Prop:=
  ∀ (pins:List (Addr × Obj)) (s:Shared) (σ:St) (H:Hp) (xs:List V) (us:List Value) (Q:VK),Inv X pins σ H s->Vals xs us->r xs H Q ->
    wpAny (model X.prog X.w) X.A (call f us) (EP X pins σ Q) X.xe s
def tOp (r:R2) (ta tb:TE):TE:=fun σ H Q=>ta σ H fun x H1=>tb σ H1 fun y H2=>r x y H2 Q
def tUn (r:V->Hp->VK->Prop) (ta:TE):TE:=fun σ H Q=>ta σ H fun x H1=>r x H1 Q
def rI (C:Int->Int->Prop) (g:Int->Int->V):R2:=fun x y H Q=>∃ i j,x=.int i/\y=.int j/\C i j/\Q (g i j) H
def rI0 (g:Int->Int->V):R2:=fun x y H Q=>∃ i j,x=.int i/\y=.int j/\Q (g i j) H
def rU (g:Int->V):V->Hp->VK->Prop:=fun x H Q=>∃ i,x=.int i/\Q (g i) H
section
variable {X:Cx} {a b c:Expr} {ta tb tc:TE} {pos:Pos}
theorem binT (ha:PE X a ta) (hb:PE X b tb) {pins:List (Addr × Obj)} {s:Shared} {σ:St} {H:Hp} {R:V->V->Hp->Prop} (I:Inv X pins σ H s)
    (h:ta σ H fun x H1=>tb σ H1 fun y H2=>R x y H2) {Q:Value->Shared->Prop} {f:Value->Value->Sem Value}
    (hf:∀ v u s2 x y H2,Inv X pins σ H2 s2->RelV x v->RelV y u->R x y H2->wpAny (model X.prog X.w) X.A (f v u) Q X.xe s2) :
    wpAny (model X.prog X.w) X.A (eval a X.env) (fun v s₁=>wpAny (model X.prog X.w) X.A (eval b X.env) (fun u s₂=>wpAny (model X.prog X.w) X.A (f v u) Q X.xe s₂) X.xe s₁) X.xe s:=by
  refine thn (ha pins s σ H _ I h) fun v s1 ⟨x,H1,I1,r1,q1⟩=>?_
  refine thn (hb pins s1 σ H1 _ I1 q1) fun u s2 ⟨y,H2,I2,r2,q2⟩=>?_
  exact hf v u s2 x y H2 I2 r1 r2 q2
theorem pe_op {op:Operator} {r:R2} (ho:OpR X (binaryOp op) r) (ha:PE X a ta) (hb:PE X b tb):PE X (.BinOp a op b pos) (tOp r ta tb):=by
  intro pins s σ H Q I h
  exact wpAny_BinOp (binT ha hb I h fun v u s2 x y H2 I2 rx ry q=>ho pins s2 σ H2 x y v u Q I2 rx ry q)
theorem pe_un {op:UnaryOp} {r:V->Hp->VK->Prop} (ho:UnR X (unaryOp op) r) (ha:PE X a ta):PE X (.UnaryOp op a pos) (tUn r ta):=by
  intro pins s σ H Q I h
  exact UnaryOp_ (thn (ha pins s σ H _ I h) fun v s1 ⟨x,H1,I1,r1,q1⟩=>ho pins s1 σ H1 x v Q I1 r1 q1)
theorem opI {f:Value->Value->Sem Value} {C:Int->Int->Prop} {g:Int->Int->Int}
    (rule:∀ (i j:Int) (t u:Tok) (s:Shared) (Q:Value->Shared->Prop) (E:Value->Shared->Prop),C i j->Q (.int (g i j) s.toks) { s with toks:=s.toks + 1 }->wpAny (model X.prog X.w) X.A (f (.int i t) (.int j u)) Q E s) :
    OpR X f (rI C fun i j=>.int (g i j)):=by
  intro pins s σ H x y v u Q I rx ry h
  obtain ⟨i,j,rfl,rfl,hc,q⟩:=h
  obtain ⟨t,rfl⟩:=rx
  obtain ⟨t',rfl⟩:=ry
  exact rule i j t t' s _ _ hc ⟨.int (g i j),H,I.tok _,⟨_,rfl⟩,q⟩
theorem opI0 {f:Value->Value->Sem Value} {g:Int->Int->Int}
    (rule:∀ (i j:Int) (t u:Tok) (s:Shared) (Q:Value->Shared->Prop) (E:Value->Shared->Prop),Q (.int (g i j) s.toks) { s with toks:=s.toks + 1 }->wpAny (model X.prog X.w) X.A (f (.int i t) (.int j u)) Q E s) :
    OpR X f (rI0 fun i j=>.int (g i j)):=by
  intro pins s σ H x y v u Q I rx ry h
  obtain ⟨i,j,rfl,rfl,q⟩:=h
  obtain ⟨t,rfl⟩:=rx
  obtain ⟨t',rfl⟩:=ry
  exact rule i j t t' s _ _ ⟨.int (g i j),H,I.tok _,⟨_,rfl⟩,q⟩
theorem opB0 {f:Value->Value->Sem Value} {g:Int->Int->Bool}
    (rule:∀ (i j:Int) (t u:Tok) (s:Shared) (Q:Value->Shared->Prop) (E:Value->Shared->Prop),Q (.bool (g i j)) s->wpAny (model X.prog X.w) X.A (f (.int i t) (.int j u)) Q E s) :
    OpR X f (rI0 fun i j=>.bl (g i j)):=by
  intro pins s σ H x y v u Q I rx ry h
  obtain ⟨i,j,rfl,rfl,q⟩:=h
  obtain ⟨t,rfl⟩:=rx
  obtain ⟨t',rfl⟩:=ry
  exact rule i j t t' s _ _ ⟨.bl (g i j),H,I,rfl,q⟩
def CDiv (i j:Int):Prop:=0 < j/\j < 1073741824
def CPow (i j:Int):Prop:=0<=j/\j<=1000000/\i.natAbs < 2 ^ 64
def CMul (i j:Int):Prop:=(-(2 ^ 64) < i/\i < 2 ^ 64)\/(-(2 ^ 64) < j/\j < 2 ^ 64)
theorem CMul.ok {i j:Int} (h:CMul i j):IntMulOk i j:=by
  rcases h with ⟨h1,h2⟩ | ⟨h1,h2⟩
  · exact .of_left (intBits_le_64 h1 h2)
  · exact .of_right (intBits_le_64 h1 h2)
theorem op_add:OpR X (binaryOp .Add) (rI0 fun i j=>.int (i + j)):=opI0 fun _ _ _ _ _ _ _ q=>add_int q
theorem op_sub:OpR X (binaryOp .Sub) (rI0 fun i j=>.int (i - j)):=opI0 fun _ _ _ _ _ _ _ q=>sub_int q
theorem op_mul:OpR X (binaryOp .Mult) (rI CMul fun i j=>.int (i * j)):=opI fun _ _ _ _ _ _ _ hc q=>mul_int q hc.ok
theorem op_fdiv:OpR X (binaryOp .FloorDiv) (rI CDiv fun i j=>.int (i / j)):=opI fun i j _ _ _ _ _ hc q=>by
  have h1:(0:Int) < j:=hc.1
  have h2:j < 1073741824:=hc.2
  exact floordiv_int (by omega) (by rw [Int.fdiv_eq_ediv_of_nonneg i (by omega)]; exact q) (.inl (PyProof.noPylong_small (by omega)))
theorem op_mod:OpR X (binaryOp .Mod) (rI (fun _ j=>0 < j) fun i j=>.int (i % j)):=opI fun i j _ _ _ _ _ hc q=>by
  have h1:(0:Int) < j:=hc
  exact mod_int' (by omega) (by rw [Int.fmod_eq_emod_of_nonneg i (by omega)]; exact q)
theorem op_pow:OpR X (binaryOp .Pow) (rI CPow fun i j=>.int (i ^ j.toNat)):=opI fun _ _ _ _ _ _ _ hc q=>pow_int_small hc.1 hc.2.1 hc.2.2 q
theorem unI {f:Value->Sem Value} {g:Int->Int}
    (rule:∀ (i:Int) (t:Tok) (s:Shared) (Q:Value->Shared->Prop) (E:Value->Shared->Prop),Q (.int (g i) s.toks) { s with toks:=s.toks + 1 }->wpAny (model X.prog X.w) X.A (f (.int i t)) Q E s) :
    UnR X f (rU fun i=>.int (g i)):=by
  intro pins s σ H x v Q I rx h
  obtain ⟨i,rfl,q⟩:=h
  obtain ⟨t,rfl⟩:=rx
  exact rule i t s _ _ ⟨.int (g i),H,I.tok _,⟨_,rfl⟩,q⟩
theorem un_neg:UnR X (unaryOp .USub) (rU fun i=>.int (-i)):=unI fun _ _ _ _ _ q=>neg_int q
end
def scal:V->V->Bool
  | .non,.non=>true | .non,.int _=>true | .int _,.non=>true | .non,.bl _=>true | .bl _,.non=>true | .non,.str _=>true | .str _,.non=>true
  | .int _,.int _=>true | .bl _,.bl _=>true | .str _,.str _=>true | .byt _,.byt _=>true
  | .int _,.str _=>true | .str _,.int _=>true | .bl _,.str _=>true | .str _,.bl _=>true
  | _,_=>false
def rEq:R2:=fun x y H Q=>scal x y=true/\Q (.bl (decide (x=y))) H
theorem dec_int {i j:Int}:decide (V.int i=V.int j)=(i == j):=by
  rw [Bool.eq_iff_iff]
  simp
theorem dec_bl {i j:Bool}:decide (V.bl i=V.bl j)=(i == j):=by
  rw [Bool.eq_iff_iff]
  simp
theorem dec_str {i j:Str}:decide (V.str i=V.str j)=(i == j):=by
  rw [Bool.eq_iff_iff]
  simp
theorem dec_byt {i j:Array UInt8}:decide (V.byt i=V.byt j)=(i.toList == j.toList):=by
  rw [Bool.eq_iff_iff]
  cases i
  cases j
  simp
section
variable {X:Cx} {a b c:Expr} {ta tb tc:TE} {pos:Pos}
theorem fin_bl {pins:List (Addr × Obj)} {σ:St} {H:Hp} {s:Shared} {Q:VK} {k k':Bool} (I:Inv X pins σ H s) (q:Q (.bl k) H) (e:k=k'):EP X pins σ Q (.bool k') s:=by
  subst e
  exact ⟨.bl k,H,I,rfl,q⟩
theorem op_eq:OpR X (compareOp .Eq) rEq:=by
  intro pins s σ H x y v u Q I rx ry h
  obtain ⟨hs,q⟩:=h
  cases x with
  | non=>
    cases rx
    cases y with
    | non=>cases ry; exact PySem.EqNone.eq_none_none (fin_bl I q (by simp))
    | bl j=>cases ry; exact PySem.EqNone.eq_none_bool (fin_bl I q (by simp))
    | int j=>obtain ⟨t',rfl⟩:=ry; exact PySem.EqNone.eq_none_int (fin_bl I q (by simp))
    | str j=>obtain ⟨t',rfl⟩:=ry; exact PySem.EqNone.eq_none_str (fin_bl I q (by simp))
    | _=>exact absurd (show false=true from hs) Bool.false_ne_true
  | bl i=>
    cases rx
    cases y with
    | non=>cases ry; exact PySem.EqNone.eq_bool_none (fin_bl I q (by simp))
    | bl j=>cases ry; exact eq_bool (fin_bl I q dec_bl)
    | str j=>obtain ⟨t',rfl⟩:=ry; exact PySem.EqMixed.eq_bool_str (fin_bl I q (by simp))
    | _=>exact absurd (show false=true from hs) Bool.false_ne_true
  | int i=>
    obtain ⟨t,rfl⟩:=rx
    cases y with
    | non=>cases ry; exact PySem.EqNone.eq_int_none (fin_bl I q (by simp))
    | int j=>obtain ⟨t',rfl⟩:=ry; exact eq_int (fin_bl I q dec_int)
    | str j=>obtain ⟨t',rfl⟩:=ry; exact PySem.EqMixed.eq_int_str (fin_bl I q (by simp))
    | _=>exact absurd (show false=true from hs) Bool.false_ne_true
  | str i=>
    obtain ⟨t,rfl⟩:=rx
    cases y with
    | non=>cases ry; exact PySem.EqNone.eq_str_none (fin_bl I q (by simp))
    | bl j=>cases ry; exact PySem.EqMixed.eq_str_bool (fin_bl I q (by simp))
    | int j=>obtain ⟨t',rfl⟩:=ry; exact PySem.EqMixed.eq_str_int (fin_bl I q (by simp))
    | str j=>obtain ⟨t',rfl⟩:=ry; exact eq_str (fin_bl I q dec_str)
    | _=>exact absurd (show false=true from hs) Bool.false_ne_true
  | byt i=>
    obtain ⟨t,rfl⟩:=rx
    cases y with
    | byt j=>obtain ⟨t',rfl⟩:=ry; exact PySem.W.eq_bytes (fin_bl I q dec_byt)
    | _=>exact absurd (show false=true from hs) Bool.false_ne_true
  | _=>cases y <;> exact absurd (show false=true from hs) Bool.false_ne_true
theorem op_lt:OpR X (compareOp .Lt) (rI0 fun i j=>.bl (decide (i < j))):=opB0 fun _ _ _ _ _ _ _ q=>lt_int q
theorem op_le:OpR X (compareOp .LtE) (rI0 fun i j=>.bl (decide (i<=j))):=opB0 fun _ _ _ _ _ _ _ q=>le_int q
theorem op_gt:OpR X (compareOp .Gt) (rI0 fun i j=>.bl (decide (j < i))):=opB0 fun _ _ _ _ _ _ _ q=>gt_int q
theorem op_ge:OpR X (compareOp .GtE) (rI0 fun i j=>.bl (decide (j<=i))):=opB0 fun _ _ _ _ _ _ _ q=>ge_int q
theorem OpR.or {f:Value->Value->Sem Value} {r r':R2} (h:OpR X f r) (h':OpR X f r'):OpR X f (fun x y H Q=>r x y H Q\/r' x y H Q):=by
  intro pins s σ H x y v u Q I rx ry q
  rcases q with q | q
  · exact h pins s σ H x y v u Q I rx ry q
  · exact h' pins s σ H x y v u Q I rx ry q
theorem nomark (b:Expr) {op:CmpOp} (h:op ≠ .In:=by decide) (h2:op ≠ .NotIn:=by decide):behindInMarks op b=false:=by
  have e1:(op == CmpOp.In)=false:=by cases op <;> first | rfl | exact absurd rfl h
  have e2:(op == CmpOp.NotIn)=false:=by cases op <;> first | rfl | exact absurd rfl h2
  cases b <;> simp [behindInMarks,e1,e2]
theorem pe_cmpR {op:CmpOp} {r:R2} (ho:OpR X (compareOp op) r) (ha:PE X a ta) (hb:PE X b tb) (hm:behindInMarks op b=false):PE X (.Compare a [op] [b] pos) (tOp r ta tb):=by
  intro pins s σ H Q I h
  exact wpAny_Compare1 (binT ha hb I h fun v u s2 x y H2 I2 rx ry q=>ho pins s2 σ H2 x y v u Q I2 rx ry q) hm
def tTest (t:TE):TT:=fun σ H Q=>t σ H fun x H'=>∃ k,x=.bl k/\Q k H'
theorem pt_cmpR {op:CmpOp} {r:R2} (ho:OpR X (compareOp op) r) (ha:PE X a ta) (hb:PE X b tb) (hm:behindInMarks op b=false):PT X (.Compare a [op] [b] pos) (tTest (tOp r ta tb)):=by
  intro pins s σ H Q I h
  refine wpAny_isTrue_Compare1 (thn (ha pins s σ H _ I h) fun v s1 ⟨x,H1,I1,r1,q1⟩=>thn (hb pins s1 σ H1 _ I1 q1) fun u s2 ⟨y,H2,I2,r2,q2⟩=>
    thn (ho pins s2 σ H2 x y v u _ I2 r1 r2 q2) fun c s3 ⟨z,H3,I3,r3,k,e,q3⟩=>?_) hm
  subst e
  cases r3
  exact wpAny_truthy_bool ⟨H3,I3,q3⟩
def tChain (r r':R2) (ta tb tc:TE):TE:=fun σ H Q=>ta σ H fun x H1=>tb σ H1 fun y H2=>r x y H2 fun z H3=>∃ k,z=.bl k /\
  (if k=true then tc σ H3 fun w' H4=>r' y w' H4 Q else Q (.bl false) H3)
theorem pe_chain {op op':CmpOp} {r r':R2} (ho:OpR X (compareOp op) r) (ho':OpR X (compareOp op') r') (ha:PE X a ta) (hb:PE X b tb) (hc:PE X c tc)
    (hm:lastMarks [op,op'] [b,c]=false:=by with_unfolding_all rfl):PE X (.Compare a [op,op'] [b,c] pos) (tChain r r' ta tb tc):=by
  intro pins s σ H Q I h
  refine Compare_chain (thn (ha pins s σ H _ I h) fun v s1 ⟨x,H1,I1,r1,q1⟩=>chain_link (thn (hb pins s1 σ H1 _ I1 q1) fun u s2 ⟨y,H2,I2,r2,q2⟩=>
    thn (ho pins s2 σ H2 x y v u _ I2 r1 r2 q2) fun d s3 ⟨z,H3,I3,r3,k,e,q3⟩=>?_)) hm
  subst e
  cases r3
  refine wpAny_truthy_bool ?_
  cases k with
  | false=>exact ite_ff ⟨.bl false,H3,I3,rfl,q3⟩
  | true=>exact ite_tt (chain_last (thn (hc pins s3 σ H3 _ I3 q3) fun w' s4 ⟨z',H4,I4,r4,q4⟩=>ho' pins s4 σ H4 y z' u w' Q I4 r2 r4 q4))
theorem pt_chain {op op':CmpOp} {r r':R2} (ho:OpR X (compareOp op) r) (ho':OpR X (compareOp op') r') (ha:PE X a ta) (hb:PE X b tb) (hc:PE X c tc)
    (hm:lastMarks [op,op'] [b,c]=false:=by with_unfolding_all rfl):PT X (.Compare a [op,op'] [b,c] pos) (tTest (tChain r r' ta tb tc)):=by
  intro pins s σ H Q I h
  refine isTrue_chain (thn (ha pins s σ H _ I h) fun v s1 ⟨x,H1,I1,r1,q1⟩=>test_link (thn (hb pins s1 σ H1 _ I1 q1) fun u s2 ⟨y,H2,I2,r2,q2⟩=>
    thn (ho pins s2 σ H2 x y v u _ I2 r1 r2 q2) fun d s3 ⟨z,H3,I3,r3,k,e,q3⟩=>?_)) hm
  subst e
  cases r3
  refine wpAny_truthy_bool ?_
  cases k with
  | false=>
    obtain ⟨k',e',q'⟩:=q3
    cases e'
    exact ite_ff ⟨H3,I3,q'⟩
  | true=>
    refine ite_tt (test_last (thn (hc pins s3 σ H3 _ I3 q3) fun w' s4 ⟨z',H4,I4,r4,q4⟩=>thn (ho' pins s4 σ H4 y z' u w' _ I4 r2 r4 q4) fun d' s5 ⟨z2,H5,I5,r5,k2,e2,q5⟩=>?_))
    subst e2
    cases r5
    exact wpAny_truthy_bool ⟨H5,I5,q5⟩
theorem line63:(sizeLine:Nat) < 2 ^ 63:=by rw [sizeLine_eq]; decide
theorem op_add_str:OpR X (binaryOp .Add) (fun x y H Q=>∃ i j,x=.str i/\y=.str j/\i.length + j.length<=sizeLine/\Q (.str (i ++ j)) H):=by
  intro pins s σ H x y v u Q I rx ry h
  obtain ⟨i,j,rfl,rfl,hz,q⟩:=h
  obtain ⟨t,rfl⟩:=rx
  obtain ⟨t',rfl⟩:=ry
  exact add_str (fun t' tk=>⟨.str (i ++ j),H,I.tok _,⟨_,rfl⟩,q⟩) hz
theorem vals1 {x:V} {us:List Value} (r:Vals [x] us):∃ u,us=[u]/\RelV x u:=by
  cases r with
  | cons r1 r2=>cases r2; exact ⟨_,rfl,r1⟩
theorem vals2 {x y:V} {us:List Value} (r:Vals [x,y] us):∃ u w',us=[u,w']/\RelV x u/\RelV y w':=by
  cases r with
  | cons r1 r2=>
    cases r2 with
    | cons r3 r4=>cases r4; exact ⟨_,_,rfl,r1,r3⟩
theorem call_min2 (hc:X.calm=true):CallR X (.builtin "min") (fun xs H Q=>∃ i j,xs=[.int i,.int j]/\Q (.int (if j < i then j else i)) H):=by
  intro pins s σ H xs us Q I r h
  obtain ⟨i,j,rfl,q⟩:=h
  obtain ⟨u,w',rfl,⟨t,rfl⟩,⟨t',rfl⟩⟩:=vals2 r
  refine min_two_ints (I.ok.hd hc) fun h' tk k=>⟨_,H,I.kept k,?_,q⟩
  by_cases hj:j < i
  · rw [if_pos hj,if_pos hj]; exact ⟨_,rfl⟩
  · rw [if_neg hj,if_neg hj]; exact ⟨_,rfl⟩
end
end L2
namespace L2
open PySem PySem.Spec PyProof.Rows
structure ObjM (h:Heap) (x dx C:Addr) (mA:Str->Option Value):Prop where
  obj:h.get? x=some (PySem.W.instObj C dx)
  ns:h.Ns1 dx mA
  ne:dx ≠ x
theorem lookIn_ns {h:Heap} {dx:Addr} {mA:Str->Option Value} (n:h.Ns1 dx mA):∃ od,h.get? dx=some od/\∀ name,PySem.W.lookIn name od=some (mA name):=by
  obtain ⟨o,es,ep,ho,hd,hk,_,hm⟩:=n
  refine ⟨o,ho,fun name=>?_⟩
  have e:=hm name
  unfold nsFind findBy at e
  rw [<- Array.find?_toList] at e
  unfold PySem.W.lookIn
  rw [hd]
  dsimp only
  split
  · rename_i y q
    rw [q] at e
    exact congrArg some e
  · rename_i q
    rw [q] at e
    have a:es.toList.any (·.refKey)=false:=by
      rw [List.any_eq_false]
      intro y hy
      obtain ⟨z,t,hkey⟩:=hk y (Array.mem_toList_iff.mp hy)
      simp [DictEntry.refKey,hkey]
    have a':¬ es.toList.any (·.refKey)=true:=by rw [a]; exact Bool.false_ne_true
    rw [if_neg a']
    exact congrArg some e
theorem ObjM.look {h:Heap} {x dx C:Addr} {mA:Str->Option Value} (I:ObjM h x dx C mA):∃ od,PySem.W.InstAt h x (PySem.W.instObj C dx) C (some od)/\∀ name,PySem.W.lookIn name od=some (mA name):=
  let ⟨od,ho,hl⟩:=lookIn_ns I.ns
  ⟨od,⟨I.obj,rfl,rfl,ho⟩,hl⟩
section
variable {prog:Program} {w:World} {A:Around} {E:Value->Shared->Prop} {s:Shared} {K:PySem.W.Frag} {x dx C f:Addr} {mA:Str->Option Value} {name:Str} {v:Value}
end
section
variable {P:Program} {w:World} {H H':Hp} {h h':Heap} {a C dx:Addr} {fs fs':List (Str × V)}
theorem ins_get (hok:HOk P w H h) (e:H a=some (.ins C dx fs)):∃ mA,ObjM h a dx C mA/\(∀ f,RelO (fs.lookup f) (mA f))/\PySem.Within mA (fs.map (·.1))/\fs.length<=1000/\H dx=some (.own a):=by
  obtain ⟨d,z,ne,ob,mA,n,r,q⟩:=(show ObjOk P w H h a (.ins C dx fs) from hok a _ e)
  exact ⟨mA,⟨ob,n,ne⟩,r,q,z,d⟩
end
structure Cls (K:PySem.W.Frag) (C:Addr):Prop where
  pg:PySem.W.plainGet K C Str.empty=true
  hd:PySem.W.hasDictIn K C=true
  po:PySem.W.plainOver K C=true
  sa:PySem.W.findIn K (.ref C) "__setattr__" = some (some (.builtin "object.__setattr__"))
theorem Cls.get {K:PySem.W.Frag} {C:Addr} (c:Cls K C) (f:Str):PySem.W.plainGet K C f=true:=c.pg
section
variable {X:Cx} {pins:List (Addr × Obj)} {σ:St} {H:Hp} {s:Shared} {a C dx:Addr} {fs:List (Str × V)} {f:Str} {v:V} {A:Around} {E:Value->Shared->Prop}
end
section
variable {X:Cx} {o e value:Expr} {f:Str} {pos pos' tpos:Pos} {ta tv:TE}
end
section
variable {X:Cx} {pins:List (Addr × Obj)} {σ:St} {H:Hp} {s:Shared} {A:Around} {E:Value->Shared->Prop} {Q:Value->Shared->Prop} {c:Value} {b:Bool}
inductive TyOf (K:PySem.W.Frag) (H:Hp):V->Value->Prop where
  | non:TyOf K H .non (.type "NoneType")
  | bl (x:Bool):TyOf K H (.bl x) (.type "bool")
  | int (i:Int):TyOf K H (.int i) (.type "int")
  | str (x:Str):TyOf K H (.str x) (.type "str")
  | flt (x:UInt64):TyOf K H (.flt x) (.type "float")
  | lst {a:Addr} {xs:List V} (e:H a=some (.lst xs)):TyOf K H (.ref a) (.type "list")
  | frz {a:Addr} {o:Obj} {xs:List V} (e:H a=some (.frz o (.lst xs))):TyOf K H (.ref a) (.type "list")
  | tup {a:Addr} {xs:List V} (e:H a=some (.tup xs)):TyOf K H (.ref a) (.type "tuple")
  | dK {a:Addr} {kvs:List (Key × V)} (e:H a=some (.dK kvs)):TyOf K H (.ref a) (.type "dict")
  | dT {a:Addr} {kvs:List (List Key × V)} (e:H a=some (.dT kvs)):TyOf K H (.ref a) (.type "dict")
  | ins {a C dx:Addr} {fs:List (Str × V)} (e:H a=some (.ins C dx fs)) (cl:Cls K C) (ha:PySem.W.findIn K (.ref C) "__class__" = some (some (.builtin "object.__class__")))
      (hn:PySem.W.specialIn K (.builtin "object.__class__") "__get__" = some (some (.builtin "getset_descriptor.__get__"))) (htk:PySem.W.takesIn K (.builtin "object.__class__")=some true)
      (hm:PySem.W.mroIn K C (.type "object")=some true):TyOf K H (.ref a) (.ref C)
theorem isinst_ok {x:V} {u t:Value} (I:Inv X pins σ H s) (rx:RelV x u) (ty:TyOf X.K H x t) (e:PySem.W.kitOne X.K t c=some b) (h:∀ tk,Q (.bool b) { s with toks:=tk }) :
    wpAny (model X.prog X.w) A (call (.builtin "isinstance") [u,c]) Q E s:=by
  cases ty with
  | non=>cases (show u=Value.none from rx); exact PySem.W.kia_one PySem.W.kitx_none I.kIn True.intro e (fun z=>nomatch z) h
  | bl y=>cases (show u=Value.bool y from rx); exact PySem.W.kia_one PySem.W.kitx_bool I.kIn True.intro e (fun z=>nomatch z) h
  | int i=>obtain ⟨t,q⟩:=(show ∃ t,u=Value.int i t from rx); cases q; exact PySem.W.kia_one PySem.W.kitx_int I.kIn True.intro e (fun z=>nomatch z) h
  | str y=>obtain ⟨t,q⟩:=(show ∃ t,u=Value.str y t from rx); cases q; exact PySem.W.kia_one PySem.W.kitx_str I.kIn True.intro e (fun z=>nomatch z) h
  | flt y=>obtain ⟨t,q⟩:=(show ∃ t,u=Value.float y t from rx); cases q; exact PySem.W.kia_one PySem.W.kitx_float I.kIn True.intro e (fun z=>nomatch z) h
  | @lst a xs ea=>
    cases (show u=Value.ref a from rx)
    obtain ⟨_,_,n,_,h1⟩:=(show ObjOk X.prog X.w H s.heap a (.lst xs) from I.hok a _ ea)
    exact PySem.W.kia_one PySem.W.kitx_list I.kIn ⟨_,h1,rfl⟩ e (fun z=>nomatch z) h
  | @frz a ob xs ea=>
    cases (show u=Value.ref a from rx)
    obtain ⟨_,_,_,n,_,h1⟩:=(show ObjOk X.prog X.w H s.heap a (.frz ob (.lst xs)) from I.hok a _ ea)
    exact PySem.W.kia_one PySem.W.kitx_list I.kIn ⟨_,h1,rfl⟩ e (fun z=>nomatch z) h
  | @tup a xs ea=>
    cases (show u=Value.ref a from rx)
    obtain ⟨_,_,_,p⟩:=(show ObjOk X.prog X.w H s.heap a (.tup xs) from I.hok a _ ea)
    obtain ⟨o,h1,h2,_⟩:=p
    exact PySem.W.kia_one PySem.W.kitx_tuple I.kIn ⟨o,h1,h2⟩ e (fun z=>nomatch z) h
  | @dK a kvs ea=>
    cases (show u=Value.ref a from rx)
    obtain ⟨_,_,vs,_,p⟩:=(show ObjOk X.prog X.w H s.heap a (.dK kvs) from I.hok a _ ea)
    obtain ⟨o,es,ep,h1,h2,_⟩:=p
    exact PySem.W.kia_one PySem.W.kitx_dict I.kIn ⟨o,h1,h2.1⟩ e (fun z=>nomatch z) h
  | @dT a kvs ea=>
    cases (show u=Value.ref a from rx)
    obtain ⟨_,_,xs,_,o,es,ep,h1,h2,_⟩:=(show ObjOk X.prog X.w H s.heap a (.dT kvs) from I.hok a _ ea)
    exact PySem.W.kia_one PySem.W.kitx_dict I.kIn ⟨o,h1,h2.1⟩ e (fun z=>nomatch z) h
  | @ins a C dx fs ea cl ha hn htk hm=>
    cases (show u=Value.ref a from rx)
    obtain ⟨mA,O,_⟩:=ins_get I.hok ea
    obtain ⟨od,J,_⟩:=O.look
    exact PySem.W.kia_one (PySem.W.kitx_own (cl.get _) cl.hd ha hn htk hm) I.kIn J e (fun z=>nomatch z) h
end
end L2
namespace L2
open PySem PySem.Spec PyProof.Rows
structure Room (k:Nat) (A:Around):Prop where
  hd:A.handled=none
  dp:A.depth + 3 * k + 5 < recursionLimit
  un:A.units + 16 * k + 200 < cLine
theorem Room.mono {j k:Nat} {A:Around} (r:Room k A) (h:j<=k):Room j A:=⟨r.hd,by have:=r.dp; omega,by have:=r.un; omega⟩
theorem Room.deeper {k:Nat} {A:Around} (r:Room (k + 1) A) (env:Env):Room k (A.deeper env):=
  ⟨r.hd,by have:=r.dp; show A.depth + 1 + 3 * k + 5 < _; omega,by have:=r.un; show A.units + 3 + 16 * k + 200 < _; omega⟩
theorem make_depth {A:Around} {C:Addr} {us:List Value} {kw:List (Str × Value)}:(A.under (.builtin "type.__call__" ⟨.ref C :: us,kw⟩)).depth=A.depth + 1:=by
  first | rfl | simp [Around.under,Code.weight,Code.isCreation,Code.isGuard,Code.isCaller,Code.frames,Code.isFrame,guardIds]
theorem make_units {A:Around} {C:Addr} {us:List Value} {kw:List (Str × Value)}:(A.under (.builtin "type.__call__" ⟨.ref C :: us,kw⟩)).units=A.units + 1:=by
  first | rfl | simp [Around.under,Code.cUnits,Code.frames,Code.isFrame]
theorem Room.depth {k:Nat} {A:Around} (r:Room k A):A.depth < recursionLimit:=by have:=r.dp; omega
theorem Room.units {k:Nat} {A:Around} (r:Room k A):A.units + 64 < cLine:=by have:=r.un; omega
def tNil:TA:=fun _ H Q=>Q [] H
def tCons (ta:TE) (tr:TA):TA:=fun σ H Q=>ta σ H fun x H1=>tr σ H1 fun xs H2=>Q (x :: xs) H2
section
variable {X:Cx} {e:Expr} {es:List Expr} {te:TE} {t:TA} {pos:Pos}
theorem pa_nil:PA X [] tNil:=fun _ _ _ _ H Q I h=>Calls.spliced_nil ⟨[],H,I,.nil,h⟩
theorem pa_cons (ha:PE X e te) (hr:PA X es t) (hs:starEach (e :: es) X.env=(false,eval e X.env) :: starEach es X.env:=by rfl):PA X (e :: es) (tCons te t):=by
  intro pos pins s σ H Q I h
  rw [hs]
  show wpAny _ _ (spliced ((false,eval e X.env) :: backTo pos (starEach es X.env))) _ _ s
  refine Calls.spliced_cons (thn (ha pins s σ H _ I h) fun u s1 ⟨x,H1,I1,r1,q1⟩=>?_)
  exact thn (hr pos pins s1 σ H1 _ I1 q1) fun us s2 ⟨xs,H2,I2,r2,q2⟩=>⟨x :: xs,H2,I2,.cons r1 r2,q2⟩
def tTup (t:TA):TE:=fun σ H Q=>t σ H fun xs H1=>xs.length<=sizeLine/\∀ p,H1 p=none->Q (.ref p) (upd H1 p (.tup xs))
def tLst (t:TA):TE:=fun σ H Q=>t σ H fun xs H1=>xs.length<=sizeLine/\∀ p,H1 p=none->Q (.ref p) (upd H1 p (.lst xs))
theorem pe_tup {x1} (h:PA X es t):PE X (.Tuple es x1 pos) (tTup t):=by
  intro pins s σ H Q I hq
  refine wpAny_Tuple_spliced (thn (h pos pins s σ H _ I hq) fun us s1 ⟨xs,H1,I1,r,z,q⟩=>⟨by rw [<- r.length]; exact z,?_⟩)
  have hf:H1 s1.heap.objs.size=none:=I1.hok.fresh (Nat.le_refl _)
  refine ⟨.ref s1.heap.objs.size,upd H1 s1.heap.objs.size (.tup xs),I1.laid (t':=s1.toks) (fun b u e=>Heap.get?_push_of_some _ e) (Nat.le_refl _) ?_,rfl,q _ hf⟩
  exact ⟨z,us,r,⟨_,Heap.get?_push_size _ rfl,rfl,_,rfl⟩⟩
theorem pe_lst (h:PA X es t):PE X (.List es pos) (tLst t):=by
  intro pins s σ H Q I hq
  refine wpAny_List_spliced (thn (h pos pins s σ H _ I hq) fun us s1 ⟨xs,H1,I1,r,z,q⟩=>⟨by rw [<- r.length]; exact z,?_⟩)
  have hf:H1 s1.heap.objs.size=none:=I1.hok.fresh (Nat.le_refl _)
  refine ⟨.ref s1.heap.objs.size,upd H1 s1.heap.objs.size (.lst xs),I1.laid (t':=s1.toks) (fun b u e=>Heap.get?_push_of_some _ e) (Nat.le_refl _) ?_,rfl,q _ hf⟩
  exact ⟨z,us,0,r,Heap.get?_push_size _ rfl⟩
end
abbrev Sp:=List V->Hp->VK->XK->Prop
abbrev CXT:=List Env->Hp->Shared->XK->Value->Shared->Prop
structure Env0 (P:Program) (w:World) (K:PySem.W.Frag) (mg:Str->Option Value) (base:Heap) (A:Around) (outer:List Env) (s:Shared) (H:Hp):Prop where
  frames:A.frames=some outer
  mod:Mod K mg base
  bs:∀ b o,base.get? b=some o->s.heap.get? b=some o/\H b=none
  bsz:base.objs.size<=s.heap.objs.size
  funs:s.heap.FunFrames base outer
  frf:∀ b ∈ frs outer,H b=none
  hok:HOk P w H s.heap
  bare:AllBare s.gens
def CE (outer:List Env) (P:Program) (w:World) (H:Hp) (s:Shared) (Q:VK) (u:Value) (s':Shared):Prop:=
  ∃ v H',s'.os=s.os/\AllBare s'.gens/\Un (frs outer) [] H H' s.heap s'.heap/\HOk P w H' s'.heap/\RelV v u/\Q v H'
def CR (CX:CXT) (outer:List Env) (P:Program) (w:World) (H:Hp) (s:Shared) (Q:VK) (E:XK) (r:Result) (s':Shared):Prop:=
  match r with
  | .ok (.ret u)=>CE outer P w H s Q u s'
  | .ok _=>False
  | .error e=>CX outer H s E e s'
structure FnOk (P:Program) (w:World) (K:PySem.W.Frag) (mg:Str->Option Value) (base:Heap) (CX:CXT) (k:Nat) (f:Addr) (fd:FuncData) (ps:List Str) (sp:Sp):Prop where
  len:∀ vs H Q E,sp vs H Q E->vs.length=ps.length
  run:∀ (A:Around) (outer:List Env) (s:Shared) (H:Hp) (args:Args) (us:List Value) (vs:List V) (Q:VK) (E:XK),Room k A->Env0 P w K mg base A outer s H->BindsTo s fd args (ps.zip us)->Vals vs us->sp vs H Q E ->
    codeAny (model P w) A (.call (.ref f) args) (CR CX outer P w H s Q E) s
theorem FnOk.imp {P:Program} {w:World} {K:PySem.W.Frag} {mg:Str->Option Value} {base:Heap} {CX:CXT} {k:Nat} {f:Addr} {fd:FuncData} {ps:List Str} {sp sp':Sp} (F:FnOk P w K mg base CX k f fd ps sp)
    (h:∀ vs H Q E,sp' vs H Q E->sp vs H Q E):FnOk P w K mg base CX k f fd ps sp':=
  ⟨fun vs H Q E q=>F.len vs H Q E (h _ _ _ _ q),fun A outer s H args us vs Q E hr he hb hv hs=>F.run A outer s H args us vs Q E hr he hb hv (h _ _ _ _ hs)⟩
section
variable {X:Cx} {pins:List (Addr × Obj)} {σ:St} {H:Hp} {s s':Shared}
theorem Inv.env0 (I:Inv X pins σ H s):Env0 X.prog X.w X.K X.mg X.base X.A X.stack s H:=
  ⟨I.ok.frames,I.ok.mod,I.bs,Nat.le_trans I.ok.bsz I.sz,I.stack,I.stkFree,I.hok,I.bare⟩
theorem Inv.after {Q:VK} {u:Value} (I:Inv X pins σ H s) (h:CE X.stack X.prog X.w H s Q u s'):EP X pins σ Q u s':=by
  obtain ⟨v,H',os,bare,un,hok,r,q⟩:=h
  obtain ⟨hh,g,d,t,os'⟩:=s'
  obtain rfl:os'=s.os:=os
  exact ⟨v,H',I.call (h':=hh) (g':=g) (d':=d) (t':=t) (ch:=[]) un hok bare (fun b z=>absurd z (by simp)),r,q⟩
end
def tCall (sp:Sp) (dvs:List V) (E:XK) (t:TA):TE:=fun σ H Q=>t σ H fun vs H1=>sp (vs ++ dvs) H1 Q E
def Binds (K:PySem.W.Frag) (fd:FuncData) (ps:List Str) (ds:List Value):Prop:=
  ∀ (s:Shared) (us:List Value),K.In s.heap->(us ++ ds).length=ps.length->BindsTo s fd ⟨us,[]⟩ (ps.zip (us ++ ds))
theorem Binds.all {K:PySem.W.Frag} {fd:FuncData} {ps:List Str} (h:∀ us:List Value,us.length=ps.length->bindArgs fd ⟨us,[]⟩=pure (ps.zip us)):Binds K fd ps []:=fun s us _ hl=>by
  rw [List.append_nil] at hl ⊢
  exact .of_eq (h us hl)
def Passes (CX:CXT) (X:Cx) (E:XK):Prop:=∀ (pins:List (Addr × Obj)) (σ:St) (H:Hp) (s:Shared) (e:Value) (s':Shared),Inv X pins σ H s->CX X.stack H s E e s'->X.xe e s'
section
variable {X:Cx} {CX:CXT} {k:Nat} {f C:Addr} {fd:FuncData} {ps:List Str} {sp:Sp} {dvs:List V} {ds:List Value} {E:XK} {x m:Str} {p pos apos:Pos} {e o:Expr} {es:List Expr} {ta:TE} {t:TA}
theorem run_fn {pins:List (Addr × Obj)} {σ:St} {H:Hp} {s:Shared} {Q:VK} {us:List Value} {vs:List V} (F:FnOk X.prog X.w X.K X.mg X.base CX k f fd ps sp) (hr:Room k X.A) (hb:Binds X.K fd ps ds) (hd:Vals dvs ds) (hx:Passes CX X E)
    (I:Inv X pins σ H s) (r:Vals vs us) (h:sp (vs ++ dvs) H Q E):wpAny (model X.prog X.w) X.A (call (.ref f) us) (EP X pins σ Q) X.xe s:=by
  have r2:Vals (vs ++ dvs) (us ++ ds):=r.append hd
  have hl:(us ++ ds).length=ps.length:=by rw [<- r2.length]; exact F.len _ _ _ _ h
  refine wpAny_call (codeAny_mono (F.run X.A X.stack s H ⟨us,[]⟩ (us ++ ds) (vs ++ dvs) Q E hr I.env0 (hb s us I.kIn hl) r2 h) fun r s' hq=>?_)
  cases r with
  | error e=>exact hx pins σ H s e s' I hq
  | ok fl=>
    cases fl with
    | ret u=>exact I.after hq
    | next=>exact False.elim hq
    | brk=>exact False.elim hq
    | cont=>exact False.elim hq
theorem pe_call (F:FnOk X.prog X.w X.K X.mg X.base CX k f fd ps sp) (hr:Room k X.A) (hg:Gl X x) (hm:X.mg x=some (.ref f)) (hk:PySem.W.keepIn X.K (.ref f)=true) (hb:Binds X.K fd ps ds) (hd:Vals dvs ds) (hx:Passes CX X E)
    (ha:PA X (e :: es) t) (hdb:(x == ("__debug__" : Str))=false:=by decide) (he:starEach (e :: es) X.env=(false,eval e X.env) :: starEach es X.env:=by rfl) (hpl:(backTo pos (starEach es X.env)).any (·.1)=false:=by rfl) :
    PE X (.Call (.Name x p) (e :: es) [] pos) (tCall sp dvs E t):=by
  intro pins s σ H Q I h
  refine wpAny_Call_Name_kw (ld_glob I hg hm ?_ hdb)
  refine PySem.W.callWith_K (h₀:=X.base) I.ok.mod.kin hk (thn (ha pos pins s σ H _ I h) fun us s1 ⟨vs,H1,I1,r,q⟩=>⟨I1.kIn,?_⟩) he hpl
  exact run_fn F hr hb hd hx I1 r q
end
section
variable {X:Cx} {CX:CXT} {k:Nat} {f C:Addr} {fd:FuncData} {ps ks:List Str} {sp:Sp} {E:XK} {x m:Str} {p pos apos kpos:Pos} {e o:Expr} {es:List Expr} {kws:List Keyword} {te ta:TE} {t tk:TA} {nm:Option Str}
variable {g:List Value->List Value->List Value} {gV:List V->List V->List V}
end
structure FnScope (N P:List Str) (sc:Scope):Prop where
  kind:sc.kind=.function
  co:sc.isCoroutine=false
  gen:sc.isGenerator=false
  nd:N.Nodup
  pre:N.take P.length=P
  par:∀ x ∈ P,sc.names.lookup x=some .local\/sc.names.lookup x=some .cell
  nofree:∀ y ∈ sc.names,y.2 ≠ .free
theorem bindL_out {kindOf:Str->Option NameKind} {x:Str}:∀ {binds:List (Str × Value)} {m:Str->Option Value},(∀ v,(x,v) ∉ binds)->bindL kindOf binds m x=m x
  | [],_,_=>rfl
  | (n,v) :: r,m,h=>by
    unfold bindL
    rw [bindL_out fun w hw=>h w (List.mem_cons_of_mem _ hw)]
    split
    · have:x ≠ n:=by rintro rfl; exact h v List.mem_cons_self
      simp [this]
    · rfl
theorem bindC_out {kindOf:Str->Option NameKind} {x:Str}:∀ {binds:List (Str × Value)} {m:Str->Option Value},(∀ v,(x,v) ∉ binds)->bindC kindOf binds m x=m x
  | [],_,_=>rfl
  | (n,v) :: r,m,h=>by
    unfold bindC
    rw [bindC_out fun w hw=>h w (List.mem_cons_of_mem _ hw)]
    split
    · rfl
    · have:x ≠ n:=by rintro rfl; exact h v List.mem_cons_self
      simp [this]
theorem bindL_get {kindOf:Str->Option NameKind} {x:Str} {v:Value}:∀ {P:List Str} {vs:List Value} {i:Nat} {m:Str->Option Value},P.Nodup->P[i]?=some x->vs[i]?=some v->kindOf x=some .local ->
    bindL kindOf (P.zip vs) m x=some v
  | [],_,_,_,_,h,_,_=>by simp at h
  | _ :: _,[],_,_,_,_,h,_=>by simp at h
  | p :: P,w :: vs,0,m,nd,h1,h2,hk=>by
    simp at h1 h2; subst h1; subst h2
    show bindL kindOf ((p,w) :: P.zip vs) m p=_
    unfold bindL
    rw [bindL_out fun v hv=>(List.nodup_cons.mp nd).1 (List.of_mem_zip hv).1,if_pos hk]
    simp
  | p :: P,w :: vs,i + 1,m,nd,h1,h2,hk=>by
    show bindL kindOf ((p,w) :: P.zip vs) m x=_
    unfold bindL
    exact bindL_get (i:=i) (List.nodup_cons.mp nd).2 (by simpa using h1) (by simpa using h2) hk
theorem bindC_get {kindOf:Str->Option NameKind} {x:Str} {v:Value}:∀ {P:List Str} {vs:List Value} {i:Nat} {m:Str->Option Value},P.Nodup->P[i]?=some x->vs[i]?=some v->kindOf x ≠ some .local ->
    bindC kindOf (P.zip vs) m x=some v
  | [],_,_,_,_,h,_,_=>by simp at h
  | _ :: _,[],_,_,_,_,h,_=>by simp at h
  | p :: P,w :: vs,0,m,nd,h1,h2,hk=>by
    simp at h1 h2; subst h1; subst h2
    show bindC kindOf ((p,w) :: P.zip vs) m p=_
    unfold bindC
    rw [bindC_out fun v hv=>(List.nodup_cons.mp nd).1 (List.of_mem_zip hv).1,if_neg hk]
    simp
  | p :: P,w :: vs,i + 1,m,nd,h1,h2,hk=>by
    show bindC kindOf ((p,w) :: P.zip vs) m x=_
    unfold bindC
    exact bindC_get (i:=i) (List.nodup_cons.mp nd).2 (by simpa using h1) (by simpa using h2) hk
def start (N:List Str) (vs:List V):St:=vs.map some ++ List.replicate (N.length - vs.length) none
def cxOf (CX:CXT) (P:Program) (w:World) (K:PySem.W.Frag) (mg:Str->Option Value) (base:Heap) (N:List Str) (qual:Str) (scope:Scope) (f:Addr) (cd:Value) (A:Around) (outer:List Env) (s:Shared) (H:Hp) (E:XK):Cx where
  prog:=P
  w:=w
  K:=K
  mg:=mg
  base:=base
  A:=A.deeper (envOfC qual scope s.heap.objs.size f cd)
  N:=N
  s₀:=s
  H₀:=H
  env:=envOfC qual scope s.heap.objs.size f cd
  outer:=outer
  stack:=envOfC qual scope s.heap.objs.size f cd :: outer
  ex:=[]
  calm:=true
  fn:=fun _=>true
  pn:=[]
  xe:=fun e s'=>wpAny (model P w) (A.deeper (envOfC qual scope s.heap.objs.size f cd)) (leaving (envOfC qual scope s.heap.objs.size f cd) e) (fun _ s''=>CX outer H s E e s'') (fun e' s''=>CX outer H s E e' s'') s'
theorem cell_has {sc:Scope} {n:Nat} {x:Str} (h:sc.names.lookup x=some .cell):∃ c,(cellsFrom n sc.names []).lookup x=some c:=by
  have q:=PySem.W.cellsFrom_some sc.names n [] (.inl h)
  exact Option.isSome_iff_exists.mp q
theorem inv_start {CX:CXT} {P:Program} {w:World} {K:PySem.W.Frag} {mg:Str->Option Value} {base:Heap} {N ps:List Str} {qual:Str} {scope:Scope} {f:Addr} {cd:Value} {A:Around} {outer:List Env} {s s1:Shared} {H:Hp} {E:XK} {us:List Value} {vs:List V}
    (S:FnScope N ps scope) (hd:A.handled=none) (e0:Env0 P w K mg base A outer s H) (hl:vs.length=ps.length) (r:Vals vs us)
    (x:InCallC s s.heap.objs.size (bindL (envOfC qual scope s.heap.objs.size f cd).kindOf (ps.zip us) fun _=>none) (cellsFrom (s.heap.objs.size + 1) scope.names []) (bindC (envOfC qual scope s.heap.objs.size f cd).kindOf (ps.zip us) fun _=>none) s1) :
    Inv (cxOf CX P w K mg base N qual scope f cd A outer s H E) [] (start N vs) H s1:=by
  have hpl:ps.length<=N.length:=by have:=congrArg List.length S.pre; rw [List.length_take] at this; omega
  obtain ⟨h1,tk,rfl,hk⟩:=x.done
  have noA:∀ b:Addr,b ∉ (cxOf CX P w K mg base N qual scope f cd A outer s H E).ex:=fun b z=>absurd (show b ∈ ([]:List Addr) from z) (by simp)
  refine ⟨⟨e0.mod,S.kind,rfl,rfl,Nat.le_refl _,fun y z c h1 h2=>?_,fun y hy=>?_,fun y c _ h=>?_,fun _=>hd,Around.frames_deeper e0.frames,.inr ⟨rfl,rfl⟩,fun b z=>absurd z (noA b),e0.bs,e0.bsz,fun b _ _=>noA b,fun b z=>absurd z (noA b),e0.funs,e0.frf⟩,
    rfl,e0.bare,Un.kept hk,⟨_,x.toInCall.ns,fun i y v h1 h2 h3=>?_⟩,fun y c h=>⟨_,x.cell y c h⟩,e0.hok.fresh (Nat.le_refl _),fun y c h=>?_,fun p hp=>absurd (show p ∈ ([]:List (Addr × Obj)) from hp) (by simp),e0.hok.kept hk,?_⟩
  · exact name_of_addr x.apart (PySem.mem_of_lookup h1) (PySem.mem_of_lookup h2)
  · have hy:scope.names.lookup y=some .cell\/scope.names.lookup y=some .free:=hy
    rcases hy with hy | hy
    · exact cell_has hy
    · exact absurd rfl (S.nofree _ (PySem.mem_of_lookup hy))
  · exact Nat.le_of_lt (x.above y c (PySem.mem_of_lookup h))
  · have hi:i < vs.length:=by
      unfold start at h2
      by_cases hi:i < vs.length
      · exact hi
      · rw [List.getElem?_append_right (by simpa using hi)] at h2
        rw [List.getElem?_replicate] at h2
        split at h2 <;> cases h2
    have ha:vs[i]?=some v:=by
      unfold start at h2
      rw [List.getElem?_append_left (by simpa using hi),List.getElem?_map] at h2
      cases e:vs[i]? with
      | none=>rw [e] at h2; cases h2
      | some a=>rw [e] at h2; cases h2; rfl
    obtain ⟨u,hu,rv⟩:=r.get ha
    have hp:ps[i]?=some y:=by
      rw [<- S.pre,List.getElem?_take_of_lt (by omega)]; exact h1
    have ndP:ps.Nodup:=by rw [<- S.pre]; exact S.nd.sublist (List.take_sublist _ _)
    refine ⟨u,rv,?_⟩
    rcases S.par y (List.mem_of_getElem? hp) with k | k
    · exact .inl ⟨k,bindL_get ndP hp hu k⟩
    · obtain ⟨c,e⟩:=cell_has (n:=s.heap.objs.size + 1) k
      refine .inr ⟨.inl k,c,e,?_⟩
      have q:=x.cell y c e
      rw [bindC_get ndP hp hu (by show scope.names.lookup y ≠ _; rw [k]; decide)] at q
      exact q
  · exact e0.hok.fresh (Nat.le_of_lt (x.above y c (PySem.mem_of_lookup h)))
  · unfold start
    show _=N.length
    rw [List.length_append,List.length_map,List.length_replicate]
    omega
theorem fn_of {CX:CXT} {P:Program} {w:World} {K:PySem.W.Frag} {mg:Str->Option Value} {base:Heap} {k:Nat} {f:Addr} {name qual:Str} {params:Arguments} {body:List Stmt} {scope:Scope} {dV kV doc pm cdv ct oc:Value} {an od:Option Addr}
    {osl:Array (Option Value)} {N ps:List Str} {sp:Sp} (lk:K.lookup f=some ⟨oc,od,.func (PySem.W.fnOf name qual params body scope dV kV doc pm an cdv ct),osl⟩) (hcd:PySem.W.codeIn K cdv qual=true) (S:FnScope N ps scope)
    (len:∀ vs H Q E,sp vs H Q E->vs.length=ps.length)
    (hbody:∀ (A:Around) (outer:List Env) (s:Shared) (H:Hp) (vs:List V) (Q:VK) (E:XK),Room k (A.deeper (envOfC qual scope s.heap.objs.size f cdv))->sp vs H Q E ->
      ∃ t,PSs (cxOf CX P w K mg base N qual scope f cdv A outer s H E) body t/\t { nx:=fun _ H'=>Q .non H',rt:=Q } (start N vs) H) :
    FnOk P w K mg base CX (k + 1) f (PySem.W.fnOf name qual params body scope dV kV doc pm an cdv ct) ps sp:=by
  refine ⟨len,fun A outer s H args us vs Q E hr e0 hb r hsp=>?_⟩
  have hl:=len _ _ _ _ hsp
  have KX:K.In s.heap:=e0.mod.kin.keeps fun b o e=>(e0.bs b o e).1
  have lim:s.heap.NoLimit:=e0.mod.nolimit.keeps fun b o e=>(e0.bs b o e).1
  have hkind:∀ y ∈ ps.zip us,scope.names.lookup y.1=some .local\/(scope.names.lookup y.1=some .cell/\((cellsFrom (s.heap.objs.size + 1) scope.names []).lookup y.1).isSome=true):=fun ⟨n,v⟩ hy=>by
    rcases S.par n (List.of_mem_zip hy).1 with q | q
    · exact .inl q
    · exact .inr ⟨q,PySem.W.cellsFrom_some _ _ _ (.inl q)⟩
  refine codeAny_call_function hr.depth (KX _ _ lk) rfl S.co S.gen rfl (PySem.W.codeRec_of KX hcd) (hb _ _ _ _ ?_)
  refine wpAny_newFunctionEnv_cells S.kind hkind fun env he s1 x=>?_
  subst he
  refine ⟨lim.keeps x.toInCall.keep,codeAny_func ?_⟩
  obtain ⟨t,ht,hq⟩:=hbody A outer s H vs Q E (hr.deeper _) hsp
  have I:Inv (cxOf CX P w K mg base N qual scope f cdv A outer s H E) [] (start N vs) H s1:=inv_start S hr.hd e0 hl r x
  refine wpAny_mono (ht [] s1 (start N vs) H _ I hq) (fun fl s' hs=>?_) fun e s' hs=>hs
  have fin:∀ {σ':St} {H':Hp} {v:V} {u:Value},Inv (cxOf CX P w K mg base N qual scope f cdv A outer s H E) [] σ' H' s'->RelV v u->Q v H'->CE outer P w H s Q u s':=
    fun {σ' H' v u} J rv q=>⟨v,H',J.os,J.bare,J.base,J.hok,rv,q⟩
  cases fl with
  | ret u=>
    obtain ⟨v,σ',H',J,rv,q⟩:=hs
    exact fin J rv q
  | next=>
    obtain ⟨σ',H',J,q⟩:=hs
    exact fin (v:=V.non) (u:=Value.none) J rfl q
  | brk=>
    obtain ⟨_,_,_,q⟩:=hs
    exact False.elim q
  | cont=>
    obtain ⟨_,_,_,q⟩:=hs
    exact False.elim q
end L2
namespace L2
open PySem PySem.Spec PyProof.Rows
section
variable {X:Cx} {x:Str} {p pos:Pos} {e:Expr} {es:List Expr} {t:TA} {id T:String} {r:List V->Hp->VK->Prop}
def tCB (r:List V->Hp->VK->Prop) (t:TA):TE:=fun σ H Q=>t σ H fun vs H1=>r vs H1 Q
theorem pe_callB (hc:CallR X (.builtin id) r) (hg:Gl X x) (hm:X.mg x=none) (hv:bootBuiltins x=some (.builtin id)) (ha:PA X (e :: es) t) (hn:x ≠ "__name__" := by decide) (hdb:(x == ("__debug__" : Str))=false:=by decide)
    (he:starEach (e :: es) X.env=(false,eval e X.env) :: starEach es X.env:=by rfl) (hpl:(backTo pos (starEach es X.env)).any (·.1)=false:=by rfl):PE X (.Call (.Name x p) (e :: es) [] pos) (tCB r t):=by
  intro pins s σ H Q I h
  refine wpAny_Call_Name_kw (ld_blt I hg hm hv ?_ hn hdb)
  exact PyProof.Rows.callWith_builtin1 (thn (ha pos pins s σ H _ I h) fun us s1 ⟨vs,H1,I1,r1,q1⟩=>hc pins s1 σ H1 vs us Q I1 r1 q1) he hpl
theorem pe_callTy (hc:CallR X (.type T) r) (hg:Gl X x) (hm:X.mg x=none) (hv:bootBuiltins x=some (.type T)) (ha:PA X (e :: es) t) (hn:x ≠ "__name__" := by decide) (hdb:(x == ("__debug__" : Str))=false:=by decide)
    (he:starEach (e :: es) X.env=(false,eval e X.env) :: starEach es X.env:=by rfl) (hpl:(backTo pos (starEach es X.env)).any (·.1)=false:=by rfl):PE X (.Call (.Name x p) (e :: es) [] pos) (tCB r t):=by
  intro pins s σ H Q I h
  refine wpAny_Call_Name_kw (ld_blt I hg hm hv ?_ hn hdb)
  exact PyProof.Rows.callWith_type1 (thn (ha pos pins s σ H _ I h) fun us s1 ⟨vs,H1,I1,r1,q1⟩=>hc pins s1 σ H1 vs us Q I1 r1 q1) he hpl
end
end L2
namespace HT
open PySem PyProof.Rows
def lexLt:List Int->List Int->Bool
  | [],[]=>false
  | [],_ :: _=>true
  | _ :: _,[]=>false
  | x :: xs,y :: ys=>if x=y then lexLt xs ys else decide (x < y)
theorem lexLt_cons (x y:Int) (xs ys:List Int):lexLt (x :: xs) (y :: ys)=if x=y then lexLt xs ys else decide (x < y):=rfl
theorem lexLt_nil_nil:lexLt [] []=false:=rfl
theorem lexLt_nil_cons (y:Int) (ys:List Int):lexLt [] (y :: ys)=true:=rfl
theorem lexLt_cons_nil (x:Int) (xs:List Int):lexLt (x :: xs) []=false:=rfl
theorem eqAt_int (A:Around) (s:Shared) (a:Int) (t:Tok) (c:Int) (u:Tok):∃ e,SeqAt.EqAt A s (.int a t) (.int c u) e/\(e=true <-> a=c):=
  ⟨(a == c),SeqAt.EqAt.int_int a t c u,by simp⟩
theorem rcLt_int (A:Around) (s:Shared) (a:Int) (t:Tok) (c:Int) (u:Tok) (prog:Program) (w:World) (E:Value->Shared->Prop) (Q:Value->Shared->Prop) (h:Q (.bool (decide (a < c))) s) :
    wpAny (model prog w) A (richCompare .Lt (.int a t) (.int c u)) Q E s:=
  (PyProof.Rows.lt_int h:wpAny (model prog w) A (compareOp .Lt (.int a t) (.int c u)) Q E s)
section
open PySem.SeqAt
open PySem.AutoSeq1 (wpAny_loadPart')
open PySem.MeetsSeq PySem.MeetsSeq2 PySem.MeetsSeq3
theorem tuple_lt_ints (l b:Addr) (items items2:Array Value) (n n2:Nat) (dd dd2:Option Addr) (sl sl2:Array (Option Value)) (ns ms:List Int) (hi:IntsAre items.toList ns) (hj:IntsAre items2.toList ms) :
    Meets (Builtin.«tuple.__lt__» ⟨[.ref l,.ref b],[]⟩)
      (fun _ R s=>s.heap.get? l=some { cls:=.type "tuple",dict:=dd,data:=.seq items n,slots:=sl }/\s.heap.get? b=some { cls:=.type "tuple",dict:=dd2,data:=.seq items2 n2,slots:=sl2 } /\
        R (.ok (.ret (.bool (lexLt ns ms)))) s):=
  .of_wp fun prog w A R s h=>by
    obtain ⟨hp,g,d,tk,os⟩:=s; obtain ⟨hl,hb,h⟩:=h
    have f2:=AutoSeq1.sub_tuple_tuple
    have z1:items.size=ns.length:=by rw [<- hi.length]; simp
    have z2:items2.size=ms.length:=by rw [<- hj.length]; simp
    wp_walk using wpAny_loadPart' hl,wpAny_loadPart' hb,wpAny_forIn_list _ (fun rest b s'=>b.1=none/\s'=⟨hp,g,d,tk,os⟩/\∃ (vs ws:List Value) (ns' ms':List Int),rest=vs.zip ws /\
      IntsAre vs ns'/\IntsAre ws ms'/\ns'.length + items2.size=ms'.length + items.size/\R (.ok (.ret (.bool (lexLt ns' ms')))) ⟨hp,g,d,tk,os⟩) _
    case turn=>
      rintro ⟨y,x⟩ rest b s' ⟨hb',rfl,vs,ws,ns',ms',hz,hvi,hwi,hlen,hR⟩
      cases hvi with
      | nil=>rw [List.zip_nil_left] at hz; cases hz
      | cons a t hvi'=>
        cases hwi with
        | nil=>rw [List.zip_nil_right] at hz; cases hz
        | cons c u hwi'=>
          rw [List.zip_cons_cons] at hz
          injection hz with hyx hrest
          injection hyx with hy hx
          subst hy hx
          rw [lexLt_cons] at hR
          simp only [List.length_cons] at hlen
          obtain ⟨e,he,hiff⟩:=eqAt_int A.in1 ⟨hp,g,d,tk,os⟩ a t c u
          refine wpAny_bind (he prog w _ _ ?_)
          cases e with
          | true=>
            rw [if_pos (hiff.mp rfl)] at hR
            wp_walk
            exact ⟨rfl,rfl,_,_,_,_,hrest,hvi',hwi',by omega,hR⟩
          | false=>
            rw [if_neg (fun q=>absurd (hiff.mpr q) Bool.false_ne_true)] at hR
            have hri:=rcLt_int A.in1 ⟨hp,g,d,tk,os⟩ a t c u prog w
            wp_walk using hri
            exact ⟨_,rfl,by simpa using hR⟩
    case fin=>
      rintro ⟨b1,b2⟩ s' ⟨hb',rfl,vs,ws,ns',ms',hz,hvi,hwi,hlen,hR⟩
      simp only at hb'
      subst hb'
      have hv:lexLt ns' ms'=decide (items.size < items2.size):=by
        cases hvi with
        | nil=>
          cases hwi with
          | nil=>
            simp only [List.length_nil] at hlen
            rw [lexLt_nil_nil]
            exact (decide_eq_false (by omega)).symm
          | cons c u hw=>
            simp only [List.length_nil,List.length_cons] at hlen
            rw [lexLt_nil_cons]
            exact (decide_eq_true (by omega)).symm
        | cons a t hv=>
          cases hwi with
          | nil=>
            simp only [List.length_nil,List.length_cons] at hlen
            rw [lexLt_cons_nil]
            exact (decide_eq_false (by omega)).symm
          | cons c u hw=>
            rw [List.zip_cons_cons] at hz
            cases hz
      rw [hv] at hR
      wp_walk
      exact ⟨_,rfl,by simpa [Builtin.Tuple.tupleCompareSizes] using hR⟩
    case h=>
      exact ⟨rfl,rfl,items.toList,items2.toList,ns,ms,rfl,hi,hj,by omega,h⟩
end
section
variable {prog:Program} {w:World} {A:Around} {E:Value->Shared->Prop} {s:Shared}
theorem lt_tupInts {l b:Addr} {items items2:Array Value} {ns ms:List Int} {Q:Value->Shared->Prop} (hl:IsTup s.heap l items) (hb:IsTup s.heap b items2) (hi:IntsAre items.toList ns) (hj:IntsAre items2.toList ms)
    (hu:A.units < cLine) (h:Q (.bool (lexLt ns ms)) s):wpAny (model prog w) A (compareOp .Lt (.ref l) (.ref b)) Q E s:=by
  obtain ⟨⟨cls,dd,data,sl⟩,ho,hc,n,hd⟩:=id hl
  obtain ⟨⟨cls2,dd2,data2,sl2⟩,ho2,hc2,n2,hd2⟩:=id hb
  simp only at hc hd hc2 hd2
  subst hc hd hc2 hd2
  exact richCompare_meets_room (op:=.Lt) ⟨_,ho,rfl⟩ ⟨_,ho2,rfl⟩ PySem.F.slot_tuple_lt PySem.F.entry_tuple_lt (PySem.F.args_tuple_lt_2 _ _) (tuple_lt_ints l b items items2 n n2 dd dd2 sl sl2 ns ms hi hj)
    ⟨ho,ho2,show Value.bool (lexLt ns ms) ≠ Value.notImplemented/\Q (.bool (lexLt ns ms)) s from ⟨(fun x=>nomatch x),h⟩⟩ hu
theorem cat_tup {t b:Addr} {vs ws:List Value} {Q:Value->Shared->Prop} (ht:IsTup s.heap t vs.toArray) (hb:IsTup s.heap b ws.toArray) (hv:vs ≠ [])
    (h1:ws=[]->Q (.ref t) s) (h2:ws ≠ []->Q (.ref s.heap.objs.size) { s with heap:=s.heap.push { cls:=.type "tuple",data:=.seq (vs ++ ws).toArray } })
    (hsz:vs.length + ws.length<=sizeLine):wpAny (model prog w) A (binaryOp .Add (.ref t) (.ref b)) Q E s:=by
  obtain ⟨⟨cls,dd,data,sl⟩,ho,hc,n,hd⟩:=id ht
  obtain ⟨⟨cls2,dd2,data2,sl2⟩,ho2,hc2,n2,hd2⟩:=id hb
  simp only at hc hd hc2 hd2
  subst hc hd hc2 hd2
  have e:vs.toArray ++ ws.toArray=(vs ++ ws).toArray:=by simp
  by_cases hw:ws=[]
  · exact concat_meets ⟨_,ho,rfl⟩ ⟨_,ho2,rfl⟩ noFill_tuple_add seq_tuple_add PySem.F.slot_tuple_add PySem.F.entry_tuple_add (PySem.F.args_tuple_add_2 _ _)
      (tuple_addW1 t b vs.toArray ws.toArray n n2 dd dd2 sl sl2 (by simpa using hv) (by simp [hw])) ⟨ho,ho2,h1 hw⟩
  · refine concat_meets ⟨_,ho,rfl⟩ ⟨_,ho2,rfl⟩ noFill_tuple_add seq_tuple_add PySem.F.slot_tuple_add PySem.F.entry_tuple_add (PySem.F.args_tuple_add_2 _ _)
      (tuple_addW2 t b vs.toArray ws.toArray n n2 dd dd2 sl sl2 (by simpa using hv) (by simpa using hw) (by rw [List.size_toArray,List.size_toArray]; exact hsz)) ⟨ho,ho2,?_⟩
    rw [e]
    exact h2 hw
def sIx (n d:Nat):Option Int->Nat
  | none=>d
  | some v=>if v < 0 then (v + (n:Int)).toNat else min v.toNat n
theorem sIx_none (n d:Nat):sIx n d none=d:=rfl
theorem sIx_nat (n d k:Nat):sIx n d (some (k:Int))=min k n:=by
  show (if (k:Int) < 0 then ((k:Int) + (n:Int)).toNat else min (k:Int).toNat n)=min k n
  rw [if_neg (by omega),Int.toNat_natCast]
theorem sIx_le (n d:Nat) (hd:d<=n) (o:Option Int):sIx n d o<=n:=by
  cases o with
  | none=>exact hd
  | some v=>
    show (if v < 0 then (v + (n:Int)).toNat else min v.toNat n)<=n
    by_cases hv:v < 0
    · rw [if_pos hv]; omega
    · rw [if_neg hv]; exact Nat.min_le_right _ _
theorem clip_eq (v:Int) (n d:Nat):(if v < 0 then max (v + (n:Int)) 0 else min v (n:Int))=((sIx n d (some v):Nat):Int):=by
  show (if v < 0 then max (v + (n:Int)) 0 else min v (n:Int))=(((if v < 0 then (v + (n:Int)).toNat else min v.toNat n):Nat):Int)
  by_cases hv:v < 0
  · simp only [if_pos hv]; omega
  · simp only [if_neg hv]; omega
theorem adjust_gen (lo hi:Option Int) (n:Nat):Builtin.Slice.sliceAdjust lo hi 1 (n:Int)=(((sIx n 0 lo:Nat):Int),((sIx n n hi:Nat):Int)):=by
  have h1:¬ ((1:Int) < 0):=by omega
  unfold Builtin.Slice.sliceAdjust
  simp only [h1,if_false]
  refine Prod.ext ?_ ?_
  · cases lo with
    | none=>rfl
    | some v=>exact clip_eq v n 0
  · cases hi with
    | none=>rfl
    | some v=>exact clip_eq v n n
theorem places_gen (i j:Nat):Builtin.Slice.slicePlaces (i:Int) (j:Int) 1=j - i:=by
  unfold Builtin.Slice.slicePlaces
  have h1:(1:Int) > 0:=by omega
  simp only [h1,if_true,Int.ediv_one]
  split <;> omega
theorem slicePart_ {v:Value} {o:Option Int} {Q:Option Int->Shared->Prop} (p:IsPart v o) (h:Q o s):wpAny (model prog w) A (Builtin.Slice.slicePartIndex v) Q E s:=by
  cases p with
  | none=>exact slicePart_none h
  | int i t=>exact slicePart_int h
theorem sliceApplied_gen {sl:Addr} {vl vu:Value} {lo hi:Option Int} {n:Nat} {Q:Int × Int × Nat->Shared->Prop} (hs:s.heap.IsSliceOf sl vl vu .none) (pl:IsPart vl lo) (pu:IsPart vu hi)
    (h:Q (((sIx n 0 lo:Nat):Int),1,sIx n n hi - sIx n 0 lo) s):wpAny (model prog w) A (Builtin.Slice.sliceApplied (.ref sl) (pure (n:Int))) Q E s:=by
  obtain ⟨os,hos,hcs,hds⟩:=id hs
  unfold Builtin.Slice.sliceApplied Builtin.Slice.sliceFields
  refine wpAny_bind (wpAny_bind (wpAny_field hos hds (x:=vl) rfl (wpAny_bind (wpAny_field hos hds (x:=vu) rfl (wpAny_bind (wpAny_field hos hds (x:=.none) rfl (wpAny_pure ?_)))))))
  refine wpAny_bind (slicePart_none ?_)
  show wpAny _ _ (if ((1:Int) == 0)=true then _ else _) _ _ s
  rw [if_neg (by decide)]
  refine wpAny_bind (slicePart_ pl (wpAny_bind (slicePart_ pu (wpAny_bind (wpAny_pure ?_)))))
  show wpAny _ _ (match Builtin.Slice.sliceAdjust lo hi 1 (n:Int) with | (lo,hi)=>pure (lo,(1:Int),Builtin.Slice.slicePlaces lo hi 1)) _ _ s
  rw [adjust_gen lo hi n]
  show wpAny _ _ (pure (((sIx n 0 lo:Nat):Int),(1:Int),Builtin.Slice.slicePlaces ((sIx n 0 lo:Nat):Int) ((sIx n n hi:Nat):Int) 1)) _ _ s
  rw [places_gen]
  exact wpAny_pure h
theorem pick_gen (xs:Array Value) (i k:Nat):((List.range k).filterMap fun (m:Nat)=>xs[((i:Int) + (m:Int) * 1).toNat]?).toArray=((xs.toList.drop i).take k).toArray:=by
  have e:(fun (m:Nat)=>xs[((i:Int) + (m:Int) * 1).toNat]?)=fun m=>xs[i + m]?:=by
    funext m
    have:((i:Int) + (m:Int) * 1).toNat=i + m:=by omega
    rw [this]
  rw [e]
  have:=pick_run xs i k
  rw [List.filterMap_map] at this
  have e2:((fun x=>xs[x]?) ∘ fun x=>i + x)=fun m=>xs[i + m]?:=rfl
  rw [e2] at this
  rw [this]
theorem getItem_tuple_cut {t sl:Addr} {items:Array Value} {vl vu:Value} {lo hi:Option Int} {Q:Value->Shared->Prop} (ht:IsTup s.heap t items) (hs:s.heap.IsSliceOf sl vl vu .none) (pl:IsPart vl lo) (pu:IsPart vu hi)
    (hw:¬ (sIx items.size 0 lo=0/\sIx items.size items.size hi=items.size))
    (h:Q (.ref s.heap.objs.size) { s with heap:=s.heap.push { cls:=.type "tuple",data:=.seq ((items.toList.drop (sIx items.size 0 lo)).take (sIx items.size items.size hi - sIx items.size 0 lo)).toArray } })
    (hsz:items.size<=sizeLine):wpAny (model prog w) A (getItem (.ref t) (.ref sl)) Q E s:=by
  have htake:sizeOk (.seq ((items.toList.drop (sIx items.size 0 lo)).take (sIx items.size items.size hi - sIx items.size 0 lo)).toArray):=by
    show ((items.toList.drop (sIx items.size 0 lo)).take (sIx items.size items.size hi - sIx items.size 0 lo)).toArray.size<=sizeLine
    rw [List.size_toArray,List.length_take,List.length_drop,Array.length_toList]
    omega
  have hj:sIx items.size items.size hi<=items.size:=sIx_le _ _ (Nat.le_refl _) hi
  obtain ⟨os,hos,hcs,hds⟩:=id hs
  have hTs:s.TypeIs (.ref sl) "slice" := ⟨os,hos,hcs⟩
  unfold getItem
  try with_reducible refine wpAny_holding ?_
  first | refine wpAny_bind (wpAny_pure ?_) | skip
  refine wpAny_bind (wpAny_sequenceKey ht.typeIs (by decide) ?_)
  refine wpAny_bind (wpAny_callSpecial?_slot (name:=Str.ofString "__getitem__") ht.typeIs PyProof.Rows.slot_tuple_getitem
    (wpAny_call_entry PyProof.Rows.slot_tuple_getitem ht.typeIs entry_tuple_getitem ?_ (args_tuple_getitem _ _)))
  show wpAny _ _ (Builtin.Tuple.tupleItemsOf (.ref t) >>= _) _ _ s
  refine wpAny_bind (tupleItemsOf_ ht ?_)
  refine wpAny_bind (wpAny_typeOf hTs ?_)
  rw [if_pos (by decide)]
  refine wpAny_bind (sliceApplied_gen hs pl pu ?_)
  have hno:¬ ((((sIx items.size 0 lo:Nat):Int) == 0 && (1:Int) == 1 && (sIx items.size items.size hi - sIx items.size 0 lo) == items.size)=true):=by
    intro q
    rw [Bool.and_eq_true,Bool.and_eq_true] at q
    have q1:((sIx items.size 0 lo:Nat):Int)=0:=eq_of_beq q.1.1
    have q2:sIx items.size items.size hi - sIx items.size 0 lo=items.size:=eq_of_beq q.2
    exact hw ⟨by omega,by omega⟩
  show wpAny _ _ (if (((sIx items.size 0 lo:Nat):Int) == 0 && (1:Int) == 1 && (sIx items.size items.size hi - sIx items.size 0 lo) == items.size)=true then _ else _) _ _ s
  rw [if_neg hno,pick_gen]
  first
    | exact wpAny_bind (m:=Builtin.Tuple.tupleExact _) (wpAny_newObj_type (wpAny_pure ⟨_,rfl,wpAny_pure h⟩) htake)
    | exact wpAny_bind (m:=Builtin.Tuple.tupleExact _) (wpAny_newObj_type (wpAny_bind (wpAny_pure (wpAny_pure ⟨_,rfl,wpAny_pure h⟩))) htake)
    | exact wpAny_bind (wpAny_bind (m:=Builtin.Tuple.tupleExact _) (wpAny_newObj_type (wpAny_pure (wpAny_pure ⟨_,rfl,wpAny_pure h⟩)) htake))
    | exact wpAny_bind (wpAny_bind (m:=Builtin.Tuple.tupleExact _) (wpAny_newObj_type (wpAny_pure ⟨_,rfl,wpAny_pure h⟩) htake))
end
end HT
namespace L2
open PySem PySem.Spec PyProof.Rows
abbrev TO:=St->Hp->(Option Int->Hp->Prop)->Prop
def PO (X:Cx) (e:Option Expr) (t:TO):Prop:=
  ∀ (pins:List (Addr × Obj)) (s:Shared) (σ:St) (H:Hp) (Q:Option Int->Hp->Prop),Inv X pins σ H s->t σ H Q ->
    wpAny (model X.prog X.w) X.A (evalPart e X.env) (fun u s'=>∃ o H',Inv X pins σ H' s'/\IsPart u o/\Q o H') X.xe s
def tNoPart:TO:=fun _ H Q=>Q none H
def tPart (t:TE):TO:=fun σ H Q=>t σ H fun x H1=>∃ i,x=.int i/\Q (some i) H1
theorem intsAre_of {ns:List Int}:∀ {us:List Value},Vals (ns.map V.int) us->IntsAre us ns:=by
  induction ns with
  | nil=>intro us r; rw [List.map_nil] at r; cases r; exact .nil
  | cons n ns ih=>
    intro us r
    rw [List.map_cons] at r
    cases r with
    | cons r1 r2=>
      obtain ⟨t,e⟩:=r1
      subst e
      exact .cons n t (ih r2)
section
variable {X:Cx} {e:Expr} {te:TE} {lo hi:Option Expr} {tl th:TO} {pos p2:Pos}
theorem po_none:PO X none tNoPart:=by
  intro pins s σ H Q I h
  rw [evalPart_none]
  exact wpAny_pure ⟨none,H,I,.none,h⟩
theorem po_some (h:PE X e te):PO X (some e) (tPart te):=by
  intro pins s σ H Q I hw
  rw [evalPart_some]
  refine thn (h pins s σ H _ I hw) fun u s1 ⟨x,H1,I1,r1,q1⟩=>?_
  obtain ⟨i,rfl,q⟩:=q1
  obtain ⟨t,rfl⟩:=r1
  exact ⟨some i,H1,I1,.int i t,q⟩
def SlR (X:Cx) (r:V->Option Int->Option Int->Hp->VK->Prop):Prop:=
  ∀ (pins:List (Addr × Obj)) (s:Shared) (σ:St) (H:Hp) (x:V) (v vl vu:Value) (lo hi:Option Int) (sl:Addr) (Q:VK),Inv X pins σ H s->RelV x v->s.heap.IsSliceOf sl vl vu .none->IsPart vl lo->IsPart vu hi->r x lo hi H Q ->
    ∃ T id,typeLookup (.type T) "__getitem__" = pure (some (.builtin id))/\s.TypeIs v T/\wpAny (model X.prog X.w) X.A (getItem v (.ref sl)) (EP X pins σ Q) X.xe s
theorem SlR.or {r r':V->Option Int->Option Int->Hp->VK->Prop} (h:SlR X r) (h':SlR X r'):SlR X (fun x lo hi H Q=>r x lo hi H Q\/r' x lo hi H Q):=by
  intro pins s σ H x v vl vu lo hi sl Q I rx hs pl pu q
  rcases q with q | q
  · exact h pins s σ H x v vl vu lo hi sl Q I rx hs pl pu q
  · exact h' pins s σ H x v vl vu lo hi sl Q I rx hs pl pu q
def tSl (r:V->Option Int->Option Int->Hp->VK->Prop) (te:TE) (tl th:TO):TE:=fun σ H Q=>te σ H fun x H1=>tl σ H1 fun l H2=>th σ H2 fun u H3=>r x l u H3 Q
theorem pe_slice {r:V->Option Int->Option Int->Hp->VK->Prop} (hr:SlR X r) (he:PE X e te) (hl:PO X lo tl) (hu:PO X hi th):PE X (.Subscript e (.Slice lo hi none p2) pos) (tSl r te tl th):=by
  intro pins s σ H Q I h
  refine Subscript_ (thn (he pins s σ H _ I h) fun v s1 ⟨x,H1,I1,r1,q1⟩=>?_)
  refine wpAny_Slice (thn (hl pins s1 σ H1 _ I1 q1) fun vl s2 ⟨l,H2,I2,pl,q2⟩=>thn (hu pins s2 σ H2 _ I2 q2) fun vu s3 ⟨u,H3,I3,pu,q3⟩=>?_)
  rw [evalPart_none]
  refine wpAny_pure ?_
  have I4:Inv X pins σ H3 { s3 with heap:=s3.heap.push { cls:=.type "slice",data:=.fields #[vl,vu,.none] } }:=I3.kept (t':=s3.toks) fun b ob q=>Heap.get?_push_of_some _ q
  obtain ⟨T,id,hT,ht,hg⟩:=hr pins { s3 with heap:=s3.heap.push { cls:=.type "slice",data:=.fields #[vl,vu,.none] } } σ H3 x v vl vu l u s3.heap.objs.size Q I4 r1 (Heap.IsSliceOf.new ..) pl pu q3
  show wpAny (model X.prog X.w) X.A (subscriptTail e (.Slice lo hi none p2) v (.ref s3.heap.objs.size)) (EP X pins σ Q) X.xe { s3 with heap:=s3.heap.push { cls:=.type "slice",data:=.fields #[vl,vu,.none] } }
  exact tail_any (ops:=[.ref s3.heap.objs.size,v]) ht hT hg (by with_unfolding_all rfl)
def cutV (xs:List V) (lo hi:Option Int):List V:=(xs.drop (HT.sIx xs.length 0 lo)).take (HT.sIx xs.length xs.length hi - HT.sIx xs.length 0 lo)
theorem cutV_length (xs:List V) (lo hi:Option Int):(cutV xs lo hi).length<=xs.length:=by
  unfold cutV
  rw [List.length_take,List.length_drop]
  omega
def rSlT (K:PySem.W.Frag):V->Option Int->Option Int->Hp->VK->Prop:=fun x lo hi H Q=>∃ a xs,x=.ref a/\SqT K H a xs /\
  ¬ (HT.sIx xs.length 0 lo=0/\HT.sIx xs.length xs.length hi=xs.length)/\∀ p,H p=none->Q (.ref p) (upd H p (.tup (cutV xs lo hi)))
theorem sl_tup:SlR X (rSlT X.K):=by
  intro pins s σ H x v vl vu lo hi sl Q I rx hs pl pu h
  obtain ⟨a,xs,rfl,hx,hw,q⟩:=h
  cases rx
  obtain ⟨its,r,ht,hz⟩:=I.tuple hx
  have hlen:its.toArray.size=xs.length:=by rw [List.size_toArray]; exact r.length.symm
  refine ⟨"tuple",_,PyProof.Rows.slot_tuple_getitem.lookup,ht.typeIs,?_⟩
  refine HT.getItem_tuple_cut ht hs pl pu (by rw [hlen]; exact hw) ?_ (by rw [hlen]; exact hz)
  rw [hlen]
  refine ⟨.ref s.heap.objs.size,_,I.laid (t':=s.toks) (o:=.tup (cutV xs lo hi)) (fun b ob q=>Heap.get?_push_of_some _ q) (Nat.le_refl _) ?_,rfl,q _ (I.hok.fresh (Nat.le_refl _))⟩
  exact ⟨Nat.le_trans (cutV_length xs lo hi) hz,_,(r.drop (HT.sIx xs.length 0 lo)).take (HT.sIx xs.length xs.length hi - HT.sIx xs.length 0 lo),IsTup.new _ _⟩
def rLtT (K:PySem.W.Frag):R2:=fun x y H Q=>∃ a b ns ms,x=.ref a/\y=.ref b/\SqT K H a (ns.map V.int)/\SqT K H b (ms.map V.int)/\Q (.bl (HT.lexLt ns ms)) H
theorem op_ltT (hu:X.A.units < cLine):OpR X (compareOp .Lt) (rLtT X.K):=by
  intro pins s σ H x y v u Q I rx ry h
  obtain ⟨a,b,ns,ms,rfl,rfl,ha,hb,q⟩:=h
  cases rx
  cases ry
  obtain ⟨its,r1,p1,_⟩:=I.tuple ha
  obtain ⟨its2,r2,p2,_⟩:=I.tuple hb
  have i1:IntsAre its.toArray.toList ns:=intsAre_of r1
  have i2:IntsAre its2.toArray.toList ms:=intsAre_of r2
  exact HT.lt_tupInts p1 p2 i1 i2 hu ⟨.bl (HT.lexLt ns ms),H,I,rfl,q⟩
def rCatT (K:PySem.W.Frag):R2:=fun x y H Q=>∃ a b xs ys,x=.ref a/\y=.ref b/\SqT K H a xs/\SqT K H b ys/\xs ≠ []/\xs.length + ys.length<=sizeLine /\
  (ys=[]->Q (.ref a) H)/\(ys ≠ []->∀ p,H p=none->Q (.ref p) (upd H p (.tup (xs ++ ys))))
theorem Vals.nil_iff {xs:List V} {us:List Value} (r:Vals xs us):us=[] <-> xs=[]:=by
  cases r with
  | nil=>simp
  | cons _ _=>simp
theorem op_catT:OpR X (binaryOp .Add) (rCatT X.K):=by
  intro pins s σ H x y v u Q I rx ry h
  obtain ⟨a,b,xs,ys,rfl,rfl,ha,hb,hx,hz,q1,q2⟩:=h
  cases rx
  cases ry
  obtain ⟨its,r1,p1,_⟩:=I.tuple ha
  obtain ⟨its2,r2,p2,_⟩:=I.tuple hb
  refine HT.cat_tup p1 p2 (fun z=>hx (r1.nil_iff.mp z)) (fun z=>⟨.ref a,H,I,rfl,q1 (r2.nil_iff.mp z)⟩) (fun z=>?_) (by rw [<- r1.length,<- r2.length]; exact hz)
  refine ⟨.ref s.heap.objs.size,_,I.laid (t':=s.toks) (o:=.tup (xs ++ ys)) (fun b ob q=>Heap.get?_push_of_some _ q) (Nat.le_refl _) ?_,rfl,q2 (fun w=>z (r2.nil_iff.mpr w)) _ (I.hok.fresh (Nat.le_refl _))⟩
  exact ⟨by rw [List.length_append]; exact hz,_,r1.append r2,IsTup.new _ _⟩
end
end L2
namespace L2
open PySem PySem.Spec PyProof.Rows
def ixN (n:Nat) (i:Int):Option Nat:=if 0<=i then (if i < n then some i.toNat else none) else if -(n:Int)<=i then some (i + n).toNat else none
def atI {α:Type} (xs:List α) (i:Int):Option α:=(ixN xs.length i).bind fun j=>xs[j]?
theorem ixN_seq {n:Nat} {i:Int} {j:Nat} (h:ixN n i=some j):seqIndex? i n=some j/\j < n/\-(n:Int)<=i/\i < n:=by
  unfold ixN at h
  by_cases h0:0<=i
  · rw [if_pos h0] at h
    by_cases h1:i < n
    · rw [if_pos h1] at h
      have e:i.toNat=j:=Option.some.inj h
      exact ⟨by rw [seqIndex_of h0 h1,e],by omega,by omega,h1⟩
    · rw [if_neg h1] at h; cases h
  · rw [if_neg h0] at h
    by_cases h1:-(n:Int)<=i
    · rw [if_pos h1] at h
      have e:(i + n).toNat=j:=Option.some.inj h
      exact ⟨by rw [seqIndex_neg (by omega) h1,e],by omega,h1,by omega⟩
    · rw [if_neg h1] at h; cases h
theorem atI_get {α:Type} {xs:List α} {i:Int} {v:α} (h:atI xs i=some v):∃ j,seqIndex? i xs.length=some j/\xs[j]?=some v/\j < xs.length/\-(xs.length:Int)<=i/\i < xs.length:=by
  unfold atI at h
  cases e:ixN xs.length i with
  | none=>rw [e] at h; cases h
  | some j=>
    rw [e] at h
    obtain ⟨h1,h2,h3,h4⟩:=ixN_seq e
    exact ⟨j,h1,h,h2,h3,h4⟩
theorem atI_last {α:Type} (xs:List α) (v:α):atI (xs ++ [v]) (-1)=some v:=by
  have hl:(xs ++ [v]).length=xs.length + 1:=by simp
  have e:ixN (xs ++ [v]).length (-1)=some xs.length:=by
    unfold ixN
    rw [hl,if_neg (by decide),if_pos (by omega)]
    congr 1
    omega
  unfold atI
  rw [e]
  show (xs ++ [v])[xs.length]?=some v
  simp
def PlainIx (b:Expr):Prop:=∀ o i,subscripted b false o i=operate [o,i] (getItem o i)
def IxR (X:Cx) (r:R2):Prop:=
  ∀ (value slice:Expr) (pins:List (Addr × Obj)) (s:Shared) (σ:St) (H:Hp) (x y:V) (v u:Value) (Q:VK),Inv X pins σ H s->RelV x v->RelV y u->r x y H Q ->
    subscripted slice false v u=operate [v,u] (getItem v u)->wpAny (model X.prog X.w) X.A (subscriptTail value slice v u) (EP X pins σ Q) X.xe s
def MtR (X:Cx) (id:String) (r:V->List V->Hp->VK->Prop):Prop:=
  ∀ (pins:List (Addr × Obj)) (s:Shared) (σ:St) (H:Hp) (x:V) (xs:List V) (v:Value) (us:List Value) (Q:VK),Inv X pins σ H s->RelV x v->Vals xs us->r x xs H Q ->
    wpAny (model X.prog X.w) X.A (call (.builtin id) (v :: us)) (EP X pins σ Q) X.xe s
section
variable {X:Cx} {a b:Expr} {ta tb:TE} {pos:Pos}
theorem IxR.or {r r':R2} (h:IxR X r) (h':IxR X r'):IxR X (fun x y H Q=>r x y H Q\/r' x y H Q):=by
  intro value slice pins s σ H x y v u Q I rx ry q hs
  rcases q with q | q
  · exact h value slice pins s σ H x y v u Q I rx ry q hs
  · exact h' value slice pins s σ H x y v u Q I rx ry q hs
theorem pe_ix {r:R2} (hr:IxR X r) (ha:PE X a ta) (hb:PE X b tb) (hs:PlainIx b):PE X (.Subscript a b pos) (tOp r ta tb):=by
  intro pins s σ H Q I h
  exact Subscript_ (binT ha hb I h fun v u s2 x y H2 I2 rx ry q=>hr a b pins s2 σ H2 x y v u Q I2 rx ry q (hs _ _))
def rIxL (K:PySem.W.Frag):R2:=fun x y H Q=>∃ p xs i v,x=.ref p/\y=.int i/\SqL K H p xs/\atI xs i=some v/\Q v H
def rIxT (K:PySem.W.Frag):R2:=fun x y H Q=>∃ p xs i v,x=.ref p/\y=.int i/\SqT K H p xs/\atI xs i=some v/\Q v H
def rIxS:R2:=fun x y H Q=>∃ z i c,x=.str z/\y=.int i/\z.length<=sizeLine/\atI z.cps.toList i=some c/\Q (.str ⟨#[c]⟩) H
theorem ix_list:IxR X (rIxL X.K):=by
  intro value slice pins s σ H x y v u Q I rx ry h hs
  obtain ⟨p,xs,i,z,rfl,rfl,hq,he,q⟩:=h
  cases rx
  obtain ⟨t,rfl⟩:=ry
  obtain ⟨its,r,pl,hz⟩:=I.list hq
  obtain ⟨j,h1,h2,h3,h4,h5⟩:=atI_get he
  obtain ⟨w,ew,rw'⟩:=r.get h2
  have hl:=r.length
  have hn:=line63
  have fin:EP X pins σ Q w s:=⟨z,H,I,rw',q⟩
  by_cases h0:0<=i
  · have hj:i.toNat=j:=by
      rw [seqIndex_of h0 h5] at h1
      exact Option.some.inj h1
    exact item_listR pl.isList h0 (by omega) (by rw [hj]; simpa using ew) fin hs
  · have hj:(i + (its.toArray.size:Int)).toNat=j:=by
      rw [seqIndex_neg (by omega) h4] at h1
      rw [List.size_toArray,<- hl]
      exact Option.some.inj h1
    exact subscriptTail_builtinR (x:=w) pl.isList.typeIs slot_list_getitem.lookup
      (wpAny_getItem_list_neg (Q:=fun r s'=>r=w/\EP X pins σ Q r s') pl.isList (by omega) (by rw [List.size_toArray] <;> omega) (by omega) (by rw [hj]; simpa using ew) ⟨rfl,fin⟩) hs
theorem ix_tup:IxR X (rIxT X.K):=by
  intro value slice pins s σ H x y v u Q I rx ry h hs
  obtain ⟨p,xs,i,z,rfl,rfl,hq,he,q⟩:=h
  cases rx
  obtain ⟨t,rfl⟩:=ry
  obtain ⟨its,r,pl,hz⟩:=I.tuple hq
  obtain ⟨j,h1,h2,h3,h4,h5⟩:=atI_get he
  obtain ⟨w,ew,rw'⟩:=r.get h2
  have hl:=r.length
  have hn:=line63
  have fin:EP X pins σ Q w s:=⟨z,H,I,rw',q⟩
  exact subscriptTail_builtinR (x:=w) pl.typeIs slot_tuple_getitem.lookup
    (getItem_tuple (j:=j) (Q:=fun r s'=>r=w/\EP X pins σ Q r s') pl (by omega) (by omega) (by rw [List.size_toArray,<- hl]; exact h1) (by simpa using ew) ⟨rfl,fin⟩) hs
theorem ix_str:IxR X rIxS:=by
  intro value slice pins s σ H x y v u Q I rx ry h hs
  obtain ⟨z,i,c,rfl,rfl,hz,he,q⟩:=h
  obtain ⟨t,rfl⟩:=rx
  obtain ⟨t',rfl⟩:=ry
  obtain ⟨j,h1,h2,h3,h4,h5⟩:=atI_get he
  have hl:z.cps.toList.length=z.length:=by simp [Str.length]
  rw [hl] at h1 h4 h5
  have hn:=line63
  exact tail_any (typeIs_str s z t) slot_str_getitem.lookup (getItem_str (c:=c) (by
    have e1:decide (i < -(2 ^ 63:Int))=false:=decide_eq_false (by omega)
    have e2:decide (i>=2 ^ 63)=false:=decide_eq_false (by omega)
    rw [e1,e2,Bool.or_false]) (by rw [h1]; simpa using h2) ⟨.str ⟨#[c]⟩,H,I.tok _,⟨_,rfl⟩,q⟩) hs
def rIx (K:PySem.W.Frag):R2:=fun x y H Q=>rIxL K x y H Q\/rIxT K x y H Q\/rIxS x y H Q
theorem ix_seq:IxR X (rIx X.K):=ix_list.or (ix_tup.or ix_str)
theorem mapSeq_set (its:List Value) (n j:Nat) (u:Value):Obj.mapSeq (·.setIfInBounds j u) { cls:=.type "list",data:=.seq its.toArray n }={ cls:=.type "list",data:=.seq (its.set j u).toArray n }:=by
  simp [Obj.mapSeq]
theorem Inv.lst {pins:List (Addr × Obj)} {σ:St} {H:Hp} {s:Shared} {p:Addr} {xs:List V} (I:Inv X pins σ H s) (h:H p=some (.lst xs)) :
    ∃ (its:List Value) (n:Nat),Vals xs its/\s.heap.get? p=some { cls:=.type "list",data:=.seq its.toArray n }/\xs.length<=sizeLine:=by
  obtain ⟨z,its,n,r,e⟩:=I.hok p _ h
  exact ⟨its,n,r,e,z⟩
theorem Inv.lstUpd {pins:List (Addr × Obj)} {σ:St} {H:Hp} {s:Shared} {p:Addr} {xs ys:List V} {its its':List Value} {n n':Nat} {f:Obj->Obj} (I:Inv X pins σ H s) (h:H p=some (.lst xs))
    (ho:s.heap.get? p=some { cls:=.type "list",data:=.seq its.toArray n }) (hf:f { cls:=.type "list",data:=.seq its.toArray n }={ cls:=.type "list",data:=.seq its'.toArray n' }) (r:Vals ys its') (hz:ys.length<=sizeLine) (t:Nat) :
    Inv X pins σ (upd H p (.lst ys)) { s with heap:=s.heap.update p f,toks:=t }:=by
  have e:(s.heap.update p f).get? p=some { cls:=.type "list",data:=.seq its'.toArray n' }:=by
    rw [Heap.get?_update_self f ho (by rw [hf] <;> rfl),hf]
  refine I.write (x:=p) (e:=p) (by rw [h]; trivial) (.inl rfl) (fun b u hb q=>(Heap.get?_update_other _ _ (Ne.symm hb)).trans q) ⟨_,e⟩ ?_
  exact ⟨hz,its',n',r,e⟩
def rSetL:V->V->V->Hp->(Hp->Prop)->Prop:=fun o i v H Q=>∃ p xs k j,o=.ref p/\i=.int k/\H p=some (.lst xs)/\ixN xs.length k=some j/\Q (upd H p (.lst (xs.set j v)))
theorem set_list:PSet X rSetL:=by
  intro pins s σ H o i v ov iv u Q I ro ri rv h
  obtain ⟨p,xs,k,j,rfl,rfl,hp,hj,q⟩:=h
  cases ro
  obtain ⟨t,rfl⟩:=ri
  obtain ⟨its,n,r,ho,hz⟩:=I.lst hp
  obtain ⟨h1,h2,h3,h4⟩:=ixN_seq hj
  have hl:=r.length
  have hn:=line63
  have I':Inv X pins σ (upd H p (.lst (xs.set j v))) { s with heap:=s.heap.update p (Obj.mapSeq (·.setIfInBounds j u)) }:=
    I.lstUpd hp ho (mapSeq_set its n j u) (r.set rv j) (by rw [List.length_set]; exact hz) s.toks
  by_cases h0:0<=k
  · have hk:k.toNat=j:=by
      rw [seqIndex_of h0 h4] at h1
      exact Option.some.inj h1
    exact PySem.W.ki_setAt ho h0 (by omega) (by rw [List.size_toArray,<- hl]; exact h4) (by rw [hk]; exact ⟨_,I',q⟩)
  · have hk:(k + (its.toArray.size:Int)).toNat=j:=by
      rw [seqIndex_neg (by omega) h3] at h1
      rw [List.size_toArray,<- hl]
      exact Option.some.inj h1
    exact PySem.W.ki_setBack ho (by omega) (by rw [List.size_toArray,<- hl]; exact h3) (by omega) (by rw [hk]; exact ⟨_,I',q⟩)
theorem slice_bounds (lo hi:Option Int) (n:Nat):(sliceBounds lo hi none n).1=((HT.sIx n 0 lo:Nat):Int)/\(sliceBounds lo hi none n).2.1=((HT.sIx n n hi:Nat):Int)/\(sliceBounds lo hi none n).2.2=1:=by
  refine ⟨?_,?_,rfl⟩
  · cases lo with
    | none=>simp [sliceBounds,HT.sIx]
    | some i=>
      simp only [sliceBounds,HT.sIx,Option.getD_none,show (1:Int) > 0 by decide,if_true]
      by_cases h:i < 0
      · simp only [h,if_true] <;> omega
      · simp only [h,if_false] <;> omega
  · cases hi with
    | none=>simp [sliceBounds,HT.sIx]
    | some i=>
      simp only [sliceBounds,HT.sIx,Option.getD_none,show (1:Int) > 0 by decide,if_true]
      by_cases h:i < 0
      · simp only [h,if_true] <;> omega
      · simp only [h,if_false] <;> omega
theorem slicePick_cut (its:List Value) (lo hi:Option Int):slicePick its.toArray lo hi none=((its.drop (HT.sIx its.length 0 lo)).take (HT.sIx its.length its.length hi - HT.sIx its.length 0 lo)).toArray:=by
  obtain ⟨h1,h2,h3⟩:=slice_bounds lo hi its.toArray.size
  unfold slicePick
  rw [h1,h2,h3]
  simp only [sliceRange_one,pick_run,List.size_toArray] <;> rfl
def rSlL (K:PySem.W.Frag):V->Option Int->Option Int->Hp->VK->Prop:=fun x lo hi H Q=>∃ a xs,x=.ref a/\SqL K H a xs/\∀ p,H p=none->Q (.ref p) (upd H p (.lst (cutV xs lo hi)))
theorem sl_list:SlR X (rSlL X.K):=by
  intro pins s σ H x v vl vu lo hi sl Q I rx hs pl pu h
  obtain ⟨a,xs,rfl,hx,q⟩:=h
  cases rx
  obtain ⟨its,r,ht,hz⟩:=I.list hx
  have hlen:=r.length
  refine ⟨"list",_,slot_list_getitem.lookup,ht.isList.typeIs,?_⟩
  refine wpAny_getItem_list_slice ht.isList hs pl pu .none (by simp) ?_ (by rw [List.size_toArray] <;> omega)
  rw [slicePick_cut,<- hlen]
  refine ⟨.ref s.heap.objs.size,_,I.laid (t':=s.toks) (o:=.lst (cutV xs lo hi)) (fun b ob q=>Heap.get?_push_of_some _ q) (Nat.le_refl _) ?_,rfl,q _ (I.hok.fresh (Nat.le_refl _))⟩
  exact ⟨Nat.le_trans (cutV_length xs lo hi) hz,_,0,(r.drop (HT.sIx xs.length 0 lo)).take (HT.sIx xs.length xs.length hi - HT.sIx xs.length 0 lo),Heap.get?_push_size _ rfl⟩
theorem call_len_seq:CallR X (.builtin "len") (fun xs H Q=>∃ p ys,xs=[.ref p]/\(SqL X.K H p ys\/SqT X.K H p ys)/\Q (.int ys.length) H):=by
  intro pins s σ H xs us Q I r h
  obtain ⟨p,ys,rfl,hq,q⟩:=h
  obtain ⟨u,rfl,rx⟩:=vals1 r
  cases rx
  have hn:=line63
  rcases hq with hq | hq
  · obtain ⟨its,r',pl,hz⟩:=I.list hq
    have hlen:=r'.length
    exact Calls.call_len_list pl.isList (by simp only [List.size_toArray] <;> omega) ⟨.int ys.length,H,I.tok _,⟨s.toks + 1,by rw [List.size_toArray,hlen]⟩,q⟩
  · obtain ⟨its,r',pl,hz⟩:=I.tuple hq
    have hlen:=r'.length
    exact len_tuple pl (by simp only [List.size_toArray] <;> omega) ⟨.int ys.length,H,I.tok _,⟨s.toks + 1,by rw [List.size_toArray,hlen]⟩,q⟩
theorem call_len_str:CallR X (.builtin "len") (fun xs H Q=>∃ z,xs=[.str z]/\z.length<=sizeLine/\Q (.int z.length) H):=by
  intro pins s σ H xs us Q I r h
  obtain ⟨z,rfl,hz,q⟩:=h
  obtain ⟨u,rfl,t,rfl⟩:=vals1 r
  have hn:=line63
  exact len_str (by omega) ⟨.int z.length,H,I.tok _,⟨_,rfl⟩,q⟩
theorem call_list_of:CallR X (.type "list") (fun xs H Q=>∃ p ys,xs=[.ref p]/\(SqL X.K H p ys\/SqT X.K H p ys)/\∀ l,H l=none->Q (.ref l) (upd H l (.lst ys))):=by
  intro pins s σ H xs us Q I r h
  obtain ⟨p,ys,rfl,hq,q⟩:=h
  obtain ⟨u,rfl,rx⟩:=vals1 r
  cases rx
  have fin:∀ (its:List Value),Vals ys its->ys.length<=sizeLine->∀ (h':Heap) (c':Nat),(∀ b o',s.heap.get? b=some o'->h'.get? b=some o') ->
      h'.get? s.heap.objs.size=some { cls:=.type "list",dict:=none,data:=.seq its.toArray c',slots:=#[] }->EP X pins σ Q (.ref s.heap.objs.size) { s with heap:=h' }:=fun its r' hz h' c' kp e=>
    ⟨.ref s.heap.objs.size,_,I.laid (t':=s.toks) kp (Nat.le_refl _) (show ObjOk X.prog X.w _ h' _ (.lst ys) from ⟨hz,its,c',r',e⟩),rfl,q _ (I.hok.fresh (Nat.le_refl _))⟩
  rcases hq with hq | hq
  · obtain ⟨its,r',pl,hz⟩:=I.list hq
    have hlen:=r'.length
    obtain ⟨o,ho,hc,n,hd⟩:=pl.isList
    exact call_list_seq p (.inl rfl) ho hc hd (fun h' c' kp e=>fin its r' hz h' c' kp e) (by simp only [List.size_toArray] <;> omega)
  · obtain ⟨its,r',pl,hz⟩:=I.tuple hq
    have hlen:=r'.length
    obtain ⟨o,ho,hc,n,hd⟩:=pl
    exact call_list_seq p (.inr rfl) ho hc hd (fun h' c' kp e=>fin its r' hz h' c' kp e) (by simp only [List.size_toArray] <;> omega)
theorem call_tuple_of:CallR X (.type "tuple") (fun xs H Q=>∃ p ys,xs=[.ref p]/\((SqL X.K H p ys/\∀ l,H l=none->Q (.ref l) (upd H l (.tup ys)))\/(SqT X.K H p ys/\Q (.ref p) H))):=by
  intro pins s σ H xs us Q I r h
  obtain ⟨p,ys,rfl,h⟩:=h
  obtain ⟨u,rfl,rx⟩:=vals1 r
  cases rx
  rcases h with ⟨hq,q⟩ | ⟨hq,q⟩
  · obtain ⟨its,r',pl,hz⟩:=I.list hq
    have hlen:=r'.length
    refine call_tuple_list pl.isList (fun h' kp=>?_) (by simp only [List.size_toArray] <;> omega)
    have I1:Inv X pins σ H { s with heap:=h' }:=I.kept (t':=s.toks) kp
    have I2:Inv X pins σ (upd H h'.objs.size (.tup ys)) { s with heap:=h'.push { cls:=.type "tuple",data:=.seq its.toArray } }:=
      I1.laid (t':=s.toks) (fun b o e=>Heap.get?_push_of_some _ e) (Nat.le_refl _) (show ObjOk X.prog X.w _ _ _ (.tup ys) from ⟨hz,its,r',IsTup.new _ _⟩)
    exact ⟨.ref h'.objs.size,_,I2,rfl,q _ (I1.hok.fresh (Nat.le_refl _))⟩
  · obtain ⟨its,r',pl,hz⟩:=I.tuple hq
    exact call_tuple_same pl ⟨.ref p,H,I,rfl,q⟩
def tyV (K:PySem.W.Frag) (T:String) (x:V) (H:Hp):Prop:=match x with
  | .str _=>T = "str"
  | .int _=>T = "int"
  | .ref p=>(T = "list" /\ ∃ xs,SqL K H p xs)\/(T = "tuple" /\ ∃ o,K.lookup p=some o/\o.cls=.type "tuple" /\ o.dict=none) \/
      (T = "dict" /\ ((∃ kvs,H p=some (.dK kvs))\/∃ kvs,H p=some (.dT kvs)))\/(T = "set" /\ ∃ S n,H p=some (.set S n))
  | _=>False
theorem tyV_is {pins:List (Addr × Obj)} {σ:St} {H:Hp} {s:Shared} {T:String} {x:V} {v:Value} (I:Inv X pins σ H s) (r:RelV x v) (ty:tyV X.K T x H) :
    s.TypeIs v T/\∀ a,v=.ref a->∃ ob,s.heap.get? a=some ob/\ob.dict=none:=by
  cases x with
  | str z=>
    obtain ⟨t,rfl⟩:=r
    cases (show T = "str" from ty)
    exact ⟨typeIs_str s z t,fun _ e=>nomatch e⟩
  | int i=>
    obtain ⟨t,rfl⟩:=r
    cases (show T = "int" from ty)
    exact ⟨typeIs_int s i t,fun _ e=>nomatch e⟩
  | ref p=>
    cases r
    rcases ty with ⟨rfl,xs,hq⟩ | ⟨rfl,o,hk,hc,hd⟩ | ⟨rfl,hk⟩ | ⟨rfl,S,n,hk⟩
    · obtain ⟨its,_,pl,_⟩:=I.list hq
      refine ⟨pl.isList.typeIs,fun a e=>?_⟩
      cases e
      obtain ⟨o,n,e,c,hd,_⟩:=pl
      exact ⟨o,e,hd⟩
    · refine ⟨⟨o,I.kIn p o hk,hc⟩,fun a e=>?_⟩
      cases e
      exact ⟨o,I.kIn _ o hk,hd⟩
    · have z:∃ o,s.heap.get? p=some o/\o.ExactDict:=by
        rcases hk with ⟨kvs,hk⟩ | ⟨kvs,hk⟩
        · obtain ⟨_,_,_,_,o,_,_,e,ex,_⟩:=I.hok p _ hk
          exact ⟨o,e,ex⟩
        · obtain ⟨_,_,_,_,o,_,_,e,ex,_⟩:=I.hok p _ hk
          exact ⟨o,e,ex⟩
      obtain ⟨o,e,ex⟩:=z
      refine ⟨⟨o,e,ex.1⟩,fun a e2=>?_⟩
      cases e2
      exact ⟨o,e,ex.2.1⟩
    · obtain ⟨o,_,_,_,e,ex,_⟩:=I.hok p _ hk
      refine ⟨⟨o,e,ex.1⟩,fun a e2=>?_⟩
      cases e2
      exact ⟨o,e,ex.2.1⟩
  | _=>exact False.elim ty
def tBM (K:PySem.W.Frag) (T:String) (r:V->List V->Hp->VK->Prop) (to:TE) (t:TA):TE:=fun σ H Q=>to σ H fun x H1=>tyV K T x H1/\t σ H1 fun xs H2=>r x xs H2 Q
variable {o e:Expr} {es:List Expr} {to:TE} {t:TA} {name:Str} {apos cpos:Pos} {T id:String} {r:V->List V->Hp->VK->Prop}
theorem pe_bm (pa:PlainAttrs T) (slot:Slot T name id) (hty:typeOf (.builtin id)=pure (.type "method_descriptor")) (hm:MtR X id r) (ho:PE X o to) (ha:PA X (e :: es) t)
    (hbase:attributeBase o name X.env (eval o X.env)=eval o X.env:=by rfl)
    (hfew:((backTo cpos (starEach (e :: es) X.env)).all (fun x=>!x.1) && (backToKw cpos (keywordEach [] X.env)).all (fun x=>x.1.isSome)
      && decide ((e :: es).length + ([]:List Keyword).length + (if ([]:List Keyword).isEmpty then 0 else 1) < 30))=true:=by rfl)
    (hline:(apos.endLine == cpos.line)=true:=by rfl) (hs:starEach (e :: es) X.env=(false,eval e X.env) :: starEach es X.env:=by rfl) (hplain:(backTo cpos (starEach es X.env)).any (·.1)=false:=by rfl) :
    PE X (.Call (.Attribute o name apos) (e :: es) [] cpos) (tBM X.K T r to t):=by
  intro pins s σ H Q I h
  refine wpAny_Call_method_late hbase hfew hline rfl (thn (ho pins s σ H _ I h) fun v s1 ⟨x,H1,I1,r1,ty,q1⟩=>?_)
  obtain ⟨h1,h2⟩:=tyV_is I1 r1 ty
  refine ⟨T,id,pa,slot,hty,h1,h2,?_⟩
  have hA:=ha cpos pins s1 σ H1 _ I1 q1
  rw [hs] at hA ⊢
  refine Calls.callWith_builtin (by show (false || (backTo cpos (starEach es X.env)).any (·.1))=false; rw [hplain] <;> rfl) (Calls.evalArgs_plain ?_)
  exact thn hA fun us s2 ⟨vs,H2,I2,r2,q2⟩=>hm pins s2 σ H2 x vs v us Q I2 r1 r2 q2
end
end L2
namespace L2
open PySem PySem.Spec PyProof.Rows
def MtM (X:Cx) (id:String) (r:V->List V->Hp->VK->Prop):Prop:=
  ∀ (pins:List (Addr × Obj)) (s:Shared) (σ:St) (H:Hp) (x:V) (xs:List V) (v:Value) (us:List Value) (Q:VK),Inv X pins σ H s->RelV x v->Vals xs us->r x xs H Q ->
    wpAny (model X.prog X.w) X.A (call (.builtin id) (v :: us)) (EP X pins σ Q) X.xe s
theorem Vals.one:∀ {x:V} {us:List Value},Vals [x] us->∃ u,us=[u]/\RelV x u
  | _,_,.cons r .nil=>⟨_,rfl,r⟩
theorem Vals.reverse {xs:List V} {us:List Value} (h:Vals xs us):Vals xs.reverse us.reverse:=by
  induction h with
  | nil=>exact .nil
  | cons r t ih=>rw [List.reverse_cons,List.reverse_cons]; exact Vals.append ih (.cons r .nil)
theorem Vals.rep {xs:List V} {us:List Value} (h:Vals xs us):∀ k:Nat,Vals (List.replicate k xs).flatten (List.replicate k us).flatten
  | 0=>.nil
  | k + 1=>by
    rw [List.replicate_succ,List.replicate_succ,List.flatten_cons,List.flatten_cons]
    exact Vals.append h (Vals.rep h k)
theorem foldl_rep (its:List Value):∀ (k:Nat) (acc:List Value),
    List.foldl (fun x1 x2=>x1 ++ x2) acc.toArray (List.replicate k its.toArray)=(acc ++ (List.replicate k its).flatten).toArray
  | 0,acc=>by simp
  | k + 1,acc=>by
    have e:acc.toArray ++ its.toArray=(acc ++ its).toArray:=by simp
    have e2:(acc ++ its) ++ (List.replicate k its).flatten=acc ++ (List.replicate (k + 1) its).flatten:=by
      rw [List.replicate_succ,List.flatten_cons,List.append_assoc]
    rw [<- e2,<- foldl_rep its k (acc ++ its),<- e,List.replicate_succ,List.foldl_cons]
section
variable {X:Cx} {pins:List (Addr × Obj)} {σ:St} {H:Hp} {s:Shared} {l b:Addr} {xs ys zs:List V}
theorem Inv.lset {its its':List Value} {n:Nat} {f:Array Value->Array Value} {t':Nat} (I:Inv X pins σ H s) (hH:H l=some (.lst xs))
    (e:s.heap.get? l=some { cls:=.type "list",data:=.seq its.toArray n }) (hf:f its.toArray=its'.toArray) (hv:Vals ys its') (hz:ys.length<=sizeLine) :
    Inv X pins σ (upd H l (.lst ys)) { s with heap:=s.heap.update l (Obj.mapSeq f),toks:=t' }:=by
  have q:=PySem.IsL.update e f
  rw [hf] at q
  refine I.write (x:=l) (e:=l) (by rw [hH]; exact trivial) (.inl rfl) (fun b' u hb hu=>(Heap.get?_update_other s.heap (Obj.mapSeq f) (Ne.symm hb)).trans hu) ⟨_,q⟩ ?_
  exact ⟨hz,its',_,hv,q⟩
theorem Inv.lnew {its:List Value} {t':Nat} (I:Inv X pins σ H s) (hv:Vals ys its) (hz:ys.length<=sizeLine) :
    Inv X pins σ (upd H s.heap.objs.size (.lst ys)) { s with heap:=s.heap.push { cls:=.type "list",data:=.seq its.toArray },toks:=t' }:=
  I.laid (fun _ _ q=>Heap.get?_push_of_some _ q) (Nat.le_refl _) ⟨hz,its,0,hv,Heap.get?_push_size _ rfl⟩
theorem Inv.fresh (I:Inv X pins σ H s):H s.heap.objs.size=none:=I.hok.fresh (Nat.le_refl _)
theorem Inv.lstM (I:Inv X pins σ H s) (hH:H l=some (.lst xs)):xs.length<=sizeLine/\∃ (its:List Value) (n:Nat),Vals xs its/\xs.length=its.length/\s.heap.get? l=some { cls:=.type "list",data:=.seq its.toArray n }:=by
  obtain ⟨z,its,n,r,e⟩:=I.hok l _ hH
  exact ⟨z,its,n,r,r.length,e⟩
theorem notLongL {n:Nat} (h:n<=sizeLine):Builtin.List.listTooLong n=false:=by
  unfold Builtin.List.listTooLong
  exact decide_eq_false (by omega)
end
section
variable {X:Cx}
def rAppend:V->List V->Hp->VK->Prop:=fun x vs H Q=>∃ l xs y,x=.ref l/\vs=[y]/\H l=some (.lst xs)/\xs.length < sizeLine/\Q .non (upd H l (.lst (xs ++ [y])))
theorem mt_append:MtM X "list.append" rAppend:=by
  intro pins s σ H x vs v us Q I rx rv h
  obtain ⟨l,xs,y,rfl,rfl,hH,hz,q⟩:=h
  cases rx
  obtain ⟨u,rfl,ru⟩:=rv.one
  obtain ⟨z,its,n,r,hl,e⟩:=I.lstM hH
  refine call_meets F.slot_list_append ⟨_,e,rfl⟩ F.entry_list_append (F.args_list_append_2 _ _) (PySem.list_append l its.toArray n u (by rw [List.size_toArray]; omega)) ⟨e,?_⟩
  refine ⟨.non,_,I.lset (its':=its ++ [u]) hH e (by simp) (r.append (.cons ru .nil)) ?_,rfl,q⟩
  rw [List.length_append,List.length_singleton]
  omega
def rExtend:V->List V->Hp->VK->Prop:=fun x vs H Q=>∃ l b xs zs,x=.ref l/\vs=[.ref b]/\H l=some (.lst xs)/\H b=some (.lst zs)/\xs.length + zs.length<=sizeLine/\Q .non (upd H l (.lst (xs ++ zs)))
theorem mt_extend:MtM X "list.extend" rExtend:=by
  intro pins s σ H x vs v us Q I rx rv h
  obtain ⟨l,b,xs,zs,rfl,rfl,hH,hB,hz,q⟩:=h
  cases rx
  obtain ⟨u,rfl,ru⟩:=rv.one
  cases ru
  obtain ⟨z,its,n,r,hl,e⟩:=I.lstM hH
  obtain ⟨z2,its2,n2,r2,hl2,e2⟩:=I.lstM hB
  have hsz:its.toArray.size + its2.toArray.size<=sizeLine:=by rw [List.size_toArray,List.size_toArray]; omega
  have hlong:¬ (!its.toArray.isEmpty && Builtin.List.listTooLong (its.toArray.size + its2.toArray.size))=true:=by
    rw [notLongL hsz,Bool.and_false]
    exact Bool.false_ne_true
  refine call_meets F.slot_list_extend ⟨_,e,rfl⟩ F.entry_list_extend (F.args_list_extend_2 _ _)
    (AutoSeq1.list_extend_list_list_0 l its.toArray n b its2.toArray n2 hlong (by rw [List.size_toArray]; omega) (by omega)) ⟨e,e2,?_⟩
  refine ⟨.non,_,I.lset (its':=its ++ its2) hH e (by simp) (r.append r2) ?_,rfl,q⟩
  rw [List.length_append]
  omega
def rCat:R2:=fun x y H Q=>∃ l b xs zs,x=.ref l/\y=.ref b/\H l=some (.lst xs)/\H b=some (.lst zs)/\xs.length + zs.length<=sizeLine/\∀ p,H p=none->Q (.ref p) (upd H p (.lst (xs ++ zs)))
theorem op_cat:OpR X (binaryOp .Add) rCat:=by
  intro pins s σ H x y v u Q I rx ry h
  obtain ⟨l,b,xs,zs,rfl,rfl,hH,hB,hz,q⟩:=h
  cases rx
  cases ry
  obtain ⟨z,its,n,r,hl,e⟩:=I.lstM hH
  obtain ⟨z2,its2,n2,r2,hl2,e2⟩:=I.lstM hB
  refine PySem.P.add_list e e2 ?_ (by rw [List.size_toArray,List.size_toArray]; omega)
  have ea:its.toArray ++ its2.toArray=(its ++ its2).toArray:=by simp
  rw [ea]
  exact ⟨.ref _,_,I.lnew (t':=s.toks) (r.append r2) (by rw [List.length_append]; omega),rfl,q _ I.fresh⟩
def rRep:R2:=fun x y H Q=>∃ l k xs,x=.ref l/\y=.int k/\H l=some (.lst xs)/\-(2 ^ 63)<=k/\k < 2 ^ 63/\xs.length * k.toNat<=sizeLine /\
  ∀ p,H p=none->Q (.ref p) (upd H p (.lst (List.replicate k.toNat xs).flatten))
theorem len_rep {α:Type} (xs:List α) (k:Nat):(List.replicate k xs).flatten.length=k * xs.length:=by
  induction k with
  | zero=>simp
  | succ k ih=>rw [List.replicate_succ,List.flatten_cons,List.length_append,ih,Nat.succ_mul,Nat.add_comm]
theorem op_rep:OpR X (binaryOp .Mult) rRep:=by
  intro pins s σ H x y v u Q I rx ry h
  obtain ⟨l,k,xs,rfl,rfl,hH,h1,h2,hz,q⟩:=h
  cases rx
  obtain ⟨t,rfl⟩:=ry
  obtain ⟨z,its,n,r,hl,e⟩:=I.lstM hH
  have hlen:its.toArray.size * k.toNat<=sizeLine:=by rw [List.size_toArray,<- hl]; exact hz
  have hcap:¬ its.toArray.size * k.toNat > (2 ^ 63 - 1) / 8:=by
    have:(sizeLine:Nat)<=(2 ^ 63 - 1) / 8:=by decide
    omega
  have hfit:¬ (!Builtin.List.listFitsIndex k)=true:=by
    rw [fitsIndex_both h1 h2]
    exact Bool.false_ne_true
  have hlong:¬ Builtin.List.listTooLong (its.toArray.size * k.toNat)=true:=by
    rw [notLongL hlen]
    exact Bool.false_ne_true
  have hnew:List.foldl (fun x1 x2=>x1 ++ x2) #[] (List.replicate (if its.toArray.isEmpty=true then 0 else k.toNat) its.toArray)=(List.replicate k.toNat its).flatten.toArray:=by
    have f0:∀ m:Nat,List.foldl (fun x1 x2=>x1 ++ x2) #[] (List.replicate m its.toArray)=(List.replicate m its).flatten.toArray:=fun m=>by
      have:=foldl_rep its m []
      rw [List.nil_append] at this
      exact this
    rw [f0]
    cases its with
    | nil=>simp
    | cons a r'=>rw [if_neg (by simp)]
  refine wpAny_binaryOp_repeat_ref (T := "list") (U := "int") (by decide) ⟨_,e,rfl⟩ (fun s'=>typeIs_int s' k t) noFill_list_mul F.fills_int_mul F.slot_int_rmul repeat_list F.slot_int_index.lookup
    (call_meets F.slot_int_rmul (typeIs_int s k t) F.entry_int_rmul (F.args_int_rmul_2 _ _) (int___rmul___int_list k t l its.toArray n)
      ⟨e,rfl,⟨_,e,rfl⟩,call_meets F.slot_list_mul ⟨_,e,rfl⟩ F.entry_list_mul (F.args_list_mul_2 _ _) (AutoListH.list___mul___list_int_3 l its.toArray n k t hfit hcap hlong) ⟨e,?_⟩⟩)
  rw [hnew]
  exact ⟨.ref _,_,I.lnew (t':=s.toks) (r.rep k.toNat) (by rw [len_rep,Nat.mul_comm]; exact hz),rfl,q _ I.fresh⟩
end
section
variable {prog:Program} {w:World} {A:Around} {E:Value->Shared->Prop} {s:Shared}
end
section
variable {X:Cx}
end
end L2
namespace Att
open PySem PySem.W PySem.Calls PyProof.Rows
theorem ints_of_wellAll {P:Params} {h:Heap}:∀ (ns:List Int) (vs:List Value),WellAll P h vs (ns.map WData.int)->IntsAre vs ns:=by
  intro ns
  induction ns with
  | nil=>
    intro vs w
    rw [List.map_nil] at w
    cases w
    exact .nil
  | cons n ns ih=>
    intro vs w
    rw [List.map_cons] at w
    cases w with
    | cons a b=>
      cases a
      exact .cons _ _ (ih _ b)
theorem script_of {l:OpenLaw} {n:Nat} (hn:l.most=some n) {P:Params} {h:Heap} {args:List WData} {vals:List Value}
    (hpre:l.row.toRowW.claim.pre args=true) (hwl:WellAll P h vals args) :
    ∃ a vs ns,vals=[Value.ref a]/\args=[WData.list (ns.map WData.int)]/\h.get? a=some { cls:=.type "list",data:=.seq vs.toArray }/\IntsAre vs ns/\ns.length<=n:=by
  have hsh:WShape.hasAll [] args [.list .int]=true:=(pre_splitW hpre).1
  have hc:l.pre.holds [] { args:=args }=true:=(pre_splitW hpre).2
  obtain ⟨d,r,rfl,h1,h2⟩:=hasAllW_cons hsh
  obtain rfl:=hasAllW_nil h2
  obtain ⟨xs,rfl,h3⟩:=hasW_list h1
  obtain ⟨ns,rfl⟩:=items_int h3
  have hlen:ns.length<=n:=by
    unfold OpenLaw.pre at hc
    have h4:(WTm.not (.lt (.lit (.int (n:Int))) (.len (.arg 0)))).holds [] { args:=[.list (ns.map .int)] }=true:=by
      have h4:=(holds_andW hc).1
      rw [hn] at h4
      exact h4
    have h5:=condW_of h4 (w_not (w_lt w_lit (w_len_list (w_arg rfl))))
    rw [List.length_map] at h5
    refine Nat.le_of_not_lt fun q=>?_
    have q':(n:Int) < ((ns.length:Nat):Int):=by omega
    first
      | (rw [decide_eq_true q'] at h5; exact absurd h5 (by decide))
      | (simp at h5; omega)
  cases hwl with
  | cons w1 w2=>
    cases w2
    cases w1 with
    | list ho hall=>exact ⟨_,_,ns,rfl,rfl,ho,ints_of_wellAll ns _ hall,hlen⟩
theorem post_true (l:OpenLaw) (args:List WData):l.row.toRowW.claim.post args (.bool true) args=true:=
  postW_of (r:=l.row.toRowW) (X:=(true == true))
    (show WShape.has [] (.bool true) .bool=true by first | rfl | decide | simp [WShape.has,WShape.arms,WShape.armsAll])
    (show (WTm.eq .res (.lit (.bool true))).value [] { args:=args,res:=some (.bool true),after:=args }=some (.bool (true == true)) from w_eq_bool (w_res rfl) w_lit) rfl
theorem attach_call {l:OpenLaw} {n:Nat} {q:Program} {loose:List Str} {XP:(Str->Option Value)->Heap->Prop} {YP:World->Heap->Prop} {d:DefRec}
    (hn:l.most=some n) (hdf:d.params.defaults=[])
    (call:∀ (w:World) (s₀ s₁:Shared) (mg mb:Str->Option Value) (fa:Addr) (o:Obj) (pm cd doc:Value) (a:Addr) (vs:List Value) (ns:List Int),
      Ground q loose [] XP w s₀ mg mb s₁.heap->YP w s₁.heap ->
      s₁.heap.get? fa=some o->o.data=.func (docDef d.name d.params d.body d.scope pm cd doc)->s₁.heap.CodeRec cd d.name->mg d.name=some (.ref fa) ->
      s₁.heap.get? a=some { cls:=.type "list",data:=.seq vs.toArray }->IntsAre vs ns->ns.length<=n->s₁.gens=#[] ->
      codeAny (model l.prog w) callerA (.call (.ref fa) ⟨[.ref a],[]⟩) (fun r s'=>r=.ok (.ret (.bool true))/\OldK s₁.heap s'.heap/\s'.os=s₁.os/\AllBare s'.gens) s₁) :
    WalkO q loose XP YP l.row.toRowW d [] (fun f vs=>PySem.call f vs):=by
  intro w s₀ s₁ mg mb G Y fa o pm cd doc dV kV ho hd hcd hD hmg hg args vals as hpre hlay hrd hwl hlo
  obtain rfl:dV=.none:=Dflts.none hD hdf
  obtain rfl:kV=.none:=Dflts.noKw hD
  obtain ⟨a,vs,ns,rfl,rfl,hobj,hints,hlen⟩:=script_of hn hpre hwl
  refine enter_call (codeAny_mono (call w s₀ s₁ mg mb fa o pm cd doc a vs ns G Y ho (fd_plain hd) hcd hmg hobj hints hlen hg) fun r s' hq=>?_)
  obtain ⟨rfl,h2,h3,h4⟩:=hq
  exact ⟨.inl ⟨.bool true,.bool true,[],rfl,fun _=>rfl,.bool true,post_true l _,fun _=>⟨List.Pairwise.nil,fun _ hm=>(nomatch hm)⟩⟩,h2,h3,h4⟩
section
variable {prog:Program} {w:World} {A:Around} {E:Value->Shared->Prop} {s:Shared} {K:Frag}
end
end Att
namespace L2
open PySem PySem.Spec PyProof.Rows
theorem vals_ints:∀ {vs:List Value} {ns:List Int},IntsAre vs ns->Vals (ns.map V.int) vs
  | _,_,.nil=>.nil
  | _,_,.cons n t h=>.cons ⟨t,rfl⟩ (vals_ints h)
def Only (H:Hp):Prop:=∀ b,H b=none\/∃ o xs,H b=some (.frz o (.lst xs))
theorem law_call {P:Program} {w:World} {K:PySem.W.Frag} {mg mb:Str->Option Value} {CX:CXT} {k:Nat} {fa a:Addr} {fd:FuncData} {x:Str} {sp:Sp} {s₁:Shared} {vs:List Value} {ns:List Int}
    (KX:K.In s₁.heap) (hns:s₁.heap.Ns mainGlobals mg) (hb:s₁.heap.Ns builtinsNs mb) (hbb:∀ x:Str,x ≠ "__name__" -> mb x=bootBuiltins x) (hlim:s₁.heap.NoLimit) (hg:s₁.gens=#[])
    (ha:s₁.heap.get? a=some { cls:=.type "list",data:=.seq vs.toArray }) (hi:IntsAre vs ns) (hl:ns.length<=sizeLine) (hr:Room k callerA)
    (F:∀ base:Heap,K.In base->base.Ns mainGlobals mg->FnOk P w K mg base CX k fa fd [x] sp) (hbind:∀ (s:Shared) (u:Value),BindsTo s fd ⟨[u],[]⟩ [(x,u)])
    (hsp:∀ H:Hp,Only H->SqL K H a (ns.map V.int)->sp [.ref a] H (fun v _=>v=.bl true) fun _ _ _=>False)
    (hCX:∀ H e s',CX [] H s₁ (fun _ _ _=>False) e s'->False) :
    codeAny (model P w) callerA (.call (.ref fa) ⟨[.ref a],[]⟩) (fun r s'=>r=.ok (.ret (.bool true))/\OldK s₁.heap s'.heap/\s'.os=s₁.os/\AllBare s'.gens) s₁:=by
  have rv:=vals_ints hi
  have lenV:=hi.length
  have core:∀ H:Hp,Only H->SqL K H a (ns.map V.int)->HOk P w H s₁.heap->(∀ b,H b ≠ none->b=a)->(H a ≠ none->K.lookup a=none) ->
      codeAny (model P w) callerA (.call (.ref fa) ⟨[.ref a],[]⟩) (fun r s'=>r=.ok (.ret (.bool true))/\OldK s₁.heap s'.heap/\s'.os=s₁.os/\AllBare s'.gens) s₁:=by
    intro H hO hS hok hA hK
    have base_of:∀ {b:Addr} {o:Obj},s₁.heap.get? b=some o->H b=none->(hidT s₁.heap H).get? b=some o:=fun e n=>hidT_get e n
    have noA:∀ {b:Addr} {o:Obj} {es:Array DictEntry} {ep:Nat},s₁.heap.get? b=some o->o.data=.dict es ep->H b=none:=fun {b o es ep} e d=>by
      cases q:H b with
      | none=>rfl
      | some u=>
        have e':b=a:=hA b (by rw [q]; simp)
        subst e'
        rw [ha] at e; cases e
        have d':Data.seq vs.toArray _=Data.dict es ep:=d
        cases d'
    have nsK:∀ {b:Addr} {m:Str->Option Value},s₁.heap.Ns b m->(hidT s₁.heap H).Ns b m:=fun {b m} ⟨o,es,ep,e,d,r⟩=>⟨o,es,ep,base_of e (noA e d),d,r⟩
    have hKb:K.In (hidT s₁.heap H):=fun b o e=>base_of (KX b o e) (by
      cases q:H b with
      | none=>rfl
      | some u=>
        have e':b=a:=hA b (by rw [q]; simp)
        subst e'
        rw [hK (by rw [q]; simp)] at e; cases e)
    have hM:Mod K mg (hidT s₁.heap H):=⟨hKb,nsK hns,⟨mb,nsK hb,hbb⟩,let ⟨mc,h1,h2⟩:=hlim; ⟨mc,nsK h1,h2⟩⟩
    have e0:Env0 P w K mg (hidT s₁.heap H) callerA [] s₁ H:=⟨rfl,hM,fun b o e=>of_hidT e,Nat.le_of_eq (hidT_size _ _),trivial,fun b hb=>absurd (show b ∈ ([]:List Addr) from hb) (by simp),hok,.of_eq hg⟩
    refine codeAny_mono ((F _ hKb (nsK hns)).run callerA [] s₁ H ⟨[.ref a],[]⟩ [.ref a] [.ref a] _ _ hr e0 (hbind s₁ (.ref a)) (.cons rfl .nil) (hsp H hO hS)) fun r s' h=>?_
    cases r with
    | error e=>exact (hCX H e s' h).elim
    | ok fl=>
      cases fl with
      | next=>exact False.elim h
      | brk=>exact False.elim h
      | cont=>exact False.elim h
      | ret u=>
        obtain ⟨v,H',os,bare,un,hok',r',q⟩:=h
        have q':v=.bl true:=q
        subst q'
        obtain rfl:u=Value.bool true:=r'
        refine ⟨rfl,OldK.of_keep fun b o e=>?_,os,bare⟩
        cases q:H b with
        | none=>exact un.keep b o e q (by intro z; exact absurd (show b ∈ ([]:List Addr) from z) (by simp)) (by simp)
        | some u=>
          rcases hO b with z | ⟨ob,xs,z⟩
          · rw [q] at z; cases z
          · have z2:=un.frzs b ob _ z
            obtain ⟨e1,_⟩:=hok b _ z
            obtain ⟨e2,_⟩:=hok' b _ z2
            rw [e] at e1; cases e1
            exact e2
  cases hk:K.lookup a with
  | some o=>
    have e:=KX a o hk
    rw [ha] at e
    cases e
    refine core (fun _=>none) (fun _=>.inl rfl) (.inr ⟨_,vs.toArray,_,hk,rfl,rfl,rfl,by rw [List.size_toArray,lenV]; exact hl,by simpa using rv⟩) (fun b u z=>by have z':(none:Option HO)=some u:=z; cases z') (fun b z=>absurd rfl z) fun z=>absurd rfl z
  | none=>
    refine core (fun b=>if b=a then some (.frz { cls:=.type "list",data:=.seq vs.toArray } (.lst (ns.map V.int))) else none) (fun b=>?_) (.inl (.inr ⟨{ cls:=.type "list",data:=.seq vs.toArray },if_pos rfl⟩)) (fun b u z=>?_) (fun b z=>?_) fun _=>hk
    · by_cases hb:b=a
      · exact .inr ⟨_,_,if_pos hb⟩
      · exact .inl (if_neg hb)
    · by_cases hb:b=a
      · have z':=(if_pos hb).symm.trans z
        cases z'
        subst hb
        exact ⟨ha,by rw [List.length_map]; exact hl,vs,_,rv,ha⟩
      · have z':=(if_neg hb).symm.trans z
        cases z'
    · by_cases hb:b=a
      · exact hb
      · exact absurd (if_neg hb) z
end L2
namespace L2
open PySem PySem.Spec PyProof.Rows
theorem walk_of {l:PySem.W.OpenLaw} {n k:Nat} {q:Program} {loose:List Str} {XP:(Str->Option Value)->Heap->Prop} {YP:World->Heap->Prop} {d:DefRec} {K:Params->PySem.W.Frag} {CX:World->CXT} {sp:World->Sp} {x:Str}
    (hn:l.most=some n) (hn2:n<=sizeLine) (hdf:d.params.defaults=[]) (hr:Room k callerA)
    (hY:∀ (w:World) (h:Heap),YP w h->(K w.params).In h)
    (F:∀ (w:World) (mg:Str->Option Value) (fa:Addr) (h:Heap),(K w.params).In h->h.Ns mainGlobals mg->mg d.name=some (.ref fa) ->
      ∃ fd:FuncData,(∀ (s:Shared) (u:Value),BindsTo s fd ⟨[u],[]⟩ [(x,u)]) /\
        ∀ base:Heap,(K w.params).In base->base.Ns mainGlobals mg->FnOk l.prog w (K w.params) mg base (CX w) k fa fd [x] (sp w))
    (hsp:∀ (w:World) (H:Hp) (a:Addr) (ns:List Int),ns.length<=n->Only H->SqL (K w.params) H a (ns.map V.int)->sp w [.ref a] H (fun v _=>v=.bl true) fun _ _ _=>False)
    (hCX:∀ (w:World) (H:Hp) (s:Shared) (e:Value) (s':Shared),CX w [] H s (fun _ _ _=>False) e s'->False) :
    PySem.W.WalkO q loose XP YP l.row.toRowW d [] (fun f vs=>PySem.call f vs):=by
  refine Att.attach_call hn hdf fun w s₀ s₁ mg mb fa o pm cd doc a vs ns G Y ho hd hcd hmg hobj hints hlen hg=>?_
  have KX:=hY w _ Y
  obtain ⟨fd,hb,hF⟩:=F w mg fa _ KX G.T.g hmg
  exact law_call KX G.T.g G.T.b G.T.builtins G.T.nolimit hg hobj hints (Nat.le_trans hlen hn2) hr hF hb (fun H hO hS=>hsp w H a ns hlen hO hS) fun H e s'=>hCX w H s₁ e s'
end L2
namespace L2
open PySem PySem.Spec PyProof.Rows
def defArgs (s:Stmt):Arguments:=match s with
  | .FunctionDef _ a _ _ _ _ _ _ _ _=>a
  | _=>{ posonlyargs:=[],args:=[],vararg:=none,kwonlyargs:=[],kw_defaults:=[],kwarg:=none,defaults:=[] }
def defBody (s:Stmt):List Stmt:=match s with
  | .FunctionDef _ _ b _ _ _ _ _ _ _=>b
  | _=>[]
def defScope (s:Stmt):Scope:=match s with
  | .FunctionDef _ _ _ _ _ _ sc _ _ _=>sc
  | _=>{ kind:=.function,names:=[],isGenerator:=false,isCoroutine:=false }
abbrev CX0:CXT:=fun _ _ _ _ _ _=>False
abbrev E0:XK:=fun _ _ _=>False
structure Fun (K:PySem.W.Frag) (x qual:Str) (st:Stmt) (f:Addr) (fd:FuncData):Prop where
  ex:∃ (oc:Value) (od:Option Addr) (kV doc pm:Value) (an:Option Addr) (cdv ct:Value) (osl:Array (Option Value)),
    fd=PySem.W.fnOf x qual (defArgs st) (defBody st) (defScope st) .none kV doc pm an cdv ct/\K.lookup f=some ⟨oc,od,.func fd,osl⟩/\PySem.W.codeIn K cdv qual=true
  kp:PySem.W.keepIn K (.ref f)=true
section
variable {P:Program} {w:World} {K:PySem.W.Frag} {mg:Str->Option Value} {base:Heap}
theorem Fun.binds {x qual:Str} {st:Stmt} {f:Addr} {fd:FuncData} {ps:List Str} (F:Fun K x qual st f fd)
    (h:∀ (kV doc pm:Value) (an:Option Addr) (cdv ct:Value) (us:List Value),us.length=ps.length->bindArgs (PySem.W.fnOf x qual (defArgs st) (defBody st) (defScope st) .none kV doc pm an cdv ct) ⟨us,[]⟩=pure (ps.zip us)):Binds K fd ps []:=by
  obtain ⟨oc,od,kV,doc,pm,an,cdv,ct,osl,rfl,lk,hcd⟩:=F.ex
  exact .all (h kV doc pm an cdv ct)
theorem fun_mk {x qual:Str} {st:Stmt} {f:Addr} {oc:Value} {od an:Option Addr} {osl:Array (Option Value)} {kV doc pm cdv ct:Value} (l:K.lookup f=some ⟨oc,od,.func (PySem.W.fnOf x qual (defArgs st) (defBody st) (defScope st) .none kV doc pm an cdv ct),osl⟩)
    (c:PySem.W.codeIn K cdv qual=true) (k:PySem.W.keepIn K (.ref f)=true):Fun K x qual st f (PySem.W.fnOf x qual (defArgs st) (defBody st) (defScope st) .none kV doc pm an cdv ct):=⟨⟨oc,od,kV,doc,pm,an,cdv,ct,osl,rfl,l,c⟩,k⟩
end
section
variable {X:Cx}
theorem pv (i:Nat) {x:Str} {pos:Pos} (hN:X.N[i]?=some x:=by rfl) (hv:Vis X.env.scope x:=by first | exact Or.inl rfl | exact Or.inr (Or.inl rfl) | exact Or.inr (Or.inr rfl)) (hd:(x == ("__debug__" : Str))=false:=by decide)
    (hcd:(x == ("__classdict__" : Str))=false:=by decide):PE X (.Name x pos) (tVar i):=pe_var hN hv hd hcd
end
theorem iteT {A B:Prop} (h:A):if true=true then A else B:=by
  rw [if_pos rfl]
  exact h
def Same (H H':Hp):Prop:=∀ b o,H b=some o->H' b=some o
theorem Same.refl (H:Hp):Same H H:=fun _ _ h=>h
end L2
namespace L2
open PySem PySem.Spec PyProof.Rows
theorem closure_of {scope:Scope} {env:Env} (h:∀ x ∈ scope.names,x.2=.free->∃ c,env.cells.lookup x.1=some c) :
    ∃ cl,closureFor scope env=pure cl/\(∀ x c,cl.lookup x=some c->env.cells.lookup x=some c)/\(∀ x ∈ scope.names,x.2=.free->∃ c,cl.lookup x.1=some c):=by
  have key:∀ (l:List (Str × NameKind)) (acc:List (Str × Addr)),(∀ x ∈ l,x.2=.free->∃ c,env.cells.lookup x.1=some c)->(∀ x c,acc.lookup x=some c->env.cells.lookup x=some c) ->
      ∃ cl,(forIn l acc fun (x:Str × NameKind) (r:List (Str × Addr))=>(match x with
        | (name,kind)=>if (kind == NameKind.free)=true then (do let c <- cellOf env name; pure (ForInStep.yield ((name,c) :: r))) else (do pure PUnit.unit; pure (ForInStep.yield r)):Sem (ForInStep (List (Str × Addr)))))=pure cl /\
        (∀ x c,cl.lookup x=some c->env.cells.lookup x=some c)/\(∀ x ∈ l,x.2=.free->∃ c,cl.lookup x.1=some c)/\(∀ x c,acc.lookup x=some c->∃ c',cl.lookup x=some c'):=by
    intro l
    induction l with
    | nil=>intro acc _ ha; exact ⟨acc,rfl,ha,fun x hx=>(by simp at hx),fun x c e=>⟨c,e⟩⟩
    | cons x r ih=>
      intro acc hl ha
      obtain ⟨n,k⟩:=x
      by_cases hk:k=.free
      · subst hk
        obtain ⟨c,hc⟩:=hl (n,.free) List.mem_cons_self rfl
        have ha':∀ x c',((n,c) :: acc).lookup x=some c'->env.cells.lookup x=some c':=fun x c' e=>by
          rw [List.lookup_cons] at e
          by_cases hx:x=n
          · subst hx; simp at e; rw [<- e]; exact hc
          · have:(x == n)=false:=by simpa using hx
            rw [this] at e; exact ha x c' e
        obtain ⟨cl,e1,e2,e3,e4⟩:=ih ((n,c) :: acc) (fun y hy=>hl y (List.mem_cons_of_mem _ hy)) ha'
        refine ⟨cl,?_,e2,fun y hy hf=>?_,fun y c' e=>?_⟩
        · rw [List.forIn_cons]
          have hcell:cellOf env n=pure c:=by unfold cellOf; rw [hc]
          simp only [beq_self_eq_true,if_true,hcell]
          exact e1
        · rcases List.mem_cons.mp hy with e | hy
          · subst e
            exact e4 n c (by simp)
          · exact e3 y hy hf
        · by_cases hy:y=n
          · subst hy; exact e4 y c (by simp)
          · have:(y == n)=false:=by simpa using hy
            exact e4 y c' (by rw [List.lookup_cons,this]; exact e)
      · obtain ⟨cl,e1,e2,e3,e4⟩:=ih acc (fun y hy=>hl y (List.mem_cons_of_mem _ hy)) ha
        refine ⟨cl,?_,e2,fun y hy hf=>?_,e4⟩
        · rw [List.forIn_cons]
          have:(k == NameKind.free)=false:=by simpa using hk
          simp only [this,Bool.false_eq_true,if_false]
          exact e1
        · rcases List.mem_cons.mp hy with e | hy
          · subst e; exact absurd hf hk
          · exact e3 y hy hf
  obtain ⟨cl,e1,e2,e3,_⟩:=key scope.names [] h (fun x c e=>by simp at e)
  refine ⟨cl,?_,e2,e3⟩
  unfold closureFor
  exact (congrArg (fun z=>z >>= pure) e1).trans rfl
theorem lookup_relab (f:Str->NameKind->NameKind) (x:Str):∀ l:List (Str × NameKind),(l.map fun y=>(y.1,f y.1 y.2)).lookup x=(l.lookup x).map (f x)
  | []=>rfl
  | (n,k) :: r=>by
    have ih:=lookup_relab f x r
    rw [List.map_cons,List.lookup_cons,List.lookup_cons]
    by_cases hx:x=n
    · subst hx; simp
    · have hb:(x == n)=false:=by simpa using hx
      rw [hb]; exact ih
theorem relabel_lookup {scope:Scope} {env:Env} {x:Str}:(relabel scope env).names.lookup x =
    (scope.names.lookup x).map fun k=>if (k == .free && env.scope.kind == .function && env.kindOf x == some .cell) then .cell else k:=by
  rw [<- lookup_relab (fun n k=>if (k == .free && env.scope.kind == .function && env.kindOf n == some .cell) then .cell else k)]
  unfold relabel
  refine congrArg (List.lookup x) (List.map_congr_left fun y _=>?_)
  obtain ⟨n,k⟩:=y
  show (if (k == NameKind.free && env.scope.kind == .function && env.kindOf n == some .cell)=true then (n,NameKind.cell) else (n,k))=_
  split <;> rfl
def compOk (N N':List Str) (sc scE:Scope) (cap:List (Option Nat)):Bool:=
  sc.kind == .function && sc.names.all (fun x=>x.2 != .cell) && sc.names.all (fun x=>x.2 != .local || sc.names.lookup x.1 == some .local) &&
  sc.names.all (fun x=>x.2 != .free || scE.names.lookup x.1 == some .cell || scE.names.lookup x.1 == some .free) && cap.length == N'.length &&
  (List.range cap.length).all (fun i=>match cap[i]? with
    | some (some j)=>(match N'[i]?,N[j]? with | some a,some b=>a == b && sc.names.lookup a == some .free | _,_=>false)
    | _=>true)
structure CompOk (N N':List Str) (sc scE:Scope) (cap:List (Option Nat)):Prop where
  kind:sc.kind=.function
  nocell:∀ x ∈ sc.names,x.2 ≠ .cell
  loc:∀ x ∈ sc.names,x.2=.local->sc.names.lookup x.1=some .local
  fre:∀ x ∈ sc.names,x.2=.free->scE.names.lookup x.1=some .cell\/scE.names.lookup x.1=some .free
  len:cap.length=N'.length
  at_:∀ (i j:Nat),cap[i]?=some (some j)->∃ x,N'[i]?=some x/\N[j]?=some x/\sc.names.lookup x=some .free
def capOf (cap:List (Option Nat)) (σ:St):St:=cap.map fun c=>c.bind fun j=>(σ[j]?).join
section
variable {prog:Program} {w:World} {A:Around} {R:Result->Shared->Prop} {s:Shared}
end
section
variable {X:Cx}
theorem HOk.same {P:Program} {w:World} {H:Hp} {h h':Heap} {a:Addr} (ok:HOk P w H h) (hn:H a=none) (hs:Heap.SameBut a h h'):HOk P w H h':=fun b ob e=>by
  refine (ok b ob e).stay (fun c w' hc q=>(hs.2 c ?_).trans q) (fun _ q=>q) fun _ _ q=>q
  rintro rfl
  rcases hc with rfl | hc
  · rw [hn] at e; cases e
  · rw [hn] at hc; cases hc
end
end L2
namespace L2
open PySem PySem.Spec PyProof.Rows
def HasItems (t:Bool) (h:Heap) (a:Addr) (items:Array Value):Prop:=if t=true then h.IsTuple a items else h.IsList a items
def IterAt (t:Bool) (h:Heap) (it a:Addr) (i:Nat):Prop:=if t=true then h.IsTupleIter it a i else h.IsListIter it a i
theorem HasItems.at {t:Bool} {h h':Heap} {a:Addr} {items:Array Value} (x:HasItems t h a items) (k:∀ o,h.get? a=some o->h'.get? a=some o):HasItems t h' a items:=by
  cases t
  · exact Heap.IsList.at x k
  · obtain ⟨o,e,r⟩:=x
    exact ⟨o,k o e,r⟩
theorem HasItems.there {t:Bool} {h:Heap} {a:Addr} {items:Array Value} (x:HasItems t h a items):∃ o,h.get? a=some o:=by
  cases t
  · obtain ⟨o,e,_⟩:=x; exact ⟨o,e⟩
  · obtain ⟨o,e,_⟩:=x; exact ⟨o,e⟩
theorem IterAt.at {t:Bool} {h h':Heap} {it a:Addr} {i:Nat} (x:IterAt t h it a i) (k:∀ o,h.get? it=some o->h'.get? it=some o):IterAt t h' it a i:=by
  cases t
  · exact Heap.IsListIter.at x k
  · obtain ⟨o,e,r⟩:=x
    exact ⟨o,k o e,r⟩
theorem IterAt.there {t:Bool} {h:Heap} {it a:Addr} {i:Nat} (x:IterAt t h it a i):∃ o,h.get? it=some o/\∀ v,o.data ≠ .cell v:=by
  cases t
  · obtain ⟨o,e,_,d⟩:=x; exact ⟨o,e,fun v z=>by rw [d] at z; cases z⟩
  · obtain ⟨o,e,_,d⟩:=x; exact ⟨o,e,fun v z=>by rw [d] at z; cases z⟩
section
variable {prog:Program} {w:World} {A:Around} {E:Value->Shared->Prop} {s:Shared}
theorem nextOf_tuple_item {it l:Addr} {i:Nat} {items} {x:Value} {Q:Value->Shared->Prop} (hit:s.heap.IsTupleIter it l i)
    (hl:s.heap.IsTuple l items) (hx:items[i]?=some x)
    (hQ:∀ h',h'.IsTupleIter it l (i + 1)->Heap.SameBut it s.heap h'->Q x { s with heap:=h' }) :
    wpAny (model prog w) A (Builtin.SmallTypes.nextOf (.ref it)) Q E s:=by
  obtain ⟨o,ho,hc,hd⟩:=id hit
  obtain ⟨ol,hol,_,nl,hdl⟩:=hl
  unfold Builtin.SmallTypes.nextOf
  refine wpAny_bind (wpAny_callSpecial?_slot (name:=Str.ofString "__next__") hit.typeIs F.slot_tuple_iterator_next
    (wpAny_call_entry F.slot_tuple_iterator_next hit.typeIs F.entry_tuple_iterator_next ?_ (F.args_tuple_iterator_next_1 _)))
  show wpAny _ _ (field (.ref it) 0 >>= _) _ _ s
  refine wpAny_bind (wpAny_field ho hd (x:=.ref l) rfl ?_)
  show wpAny _ _ (if (Value.ref l == Value.none)=true then _ else _) _ _ s
  rw [if_neg (show ¬ ((Value.ref l == Value.none)=true) from Bool.false_ne_true)]
  show wpAny _ _ (field (.ref it) 1 >>= _) _ _ s
  refine wpAny_bind (wpAny_field ho hd (x:=.int i 0) rfl ?_)
  show wpAny _ _ (seqItems? (.ref l) >>= _) _ _ s
  refine wpAny_bind (wpAny_seqItems hol hdl ?_)
  simp only [Int.toNat_natCast,hx]
  refine wpAny_bind (wpAny_setField ho hd (by simp) (wpAny_pure ⟨x,rfl,wpAny_pure (hQ _ ?_ (Heap.SameBut.update ..))⟩))
  exact ⟨_,Heap.get?_update_self _ ho (Obj.isFreed_of_fields (Obj.data_mapFields hd _)),(Obj.cls_mapFields ..).trans hc,by
    rw [Obj.data_mapFields hd]; simp [rawInt]⟩
theorem nextOf_tuple_end {it l:Addr} {i:Nat} {items} {Q:Value->Shared->Prop} (hh:A.handled=none)
    (hit:s.heap.IsTupleIter it l i) (hl:s.heap.IsTuple l items) (hx:items[i]?=none)
    (hE:∀ h' e,Heap.ExtBut it s.heap h'->(∃ o,h'.get? e=some o/\o.cls=.type "StopIteration")->E (.ref e) { s with heap:=h' }) :
    wpAny (model prog w) A (Builtin.SmallTypes.nextOf (.ref it)) Q E s:=by
  obtain ⟨o,ho,hc,hd⟩:=id hit
  obtain ⟨ol,hol,_,nl,hdl⟩:=hl
  unfold Builtin.SmallTypes.nextOf
  refine wpAny_bind (wpAny_callSpecial?_slot (name:=Str.ofString "__next__") hit.typeIs F.slot_tuple_iterator_next
    (wpAny_call_entry F.slot_tuple_iterator_next hit.typeIs F.entry_tuple_iterator_next ?_ (F.args_tuple_iterator_next_1 _)))
  show wpAny _ _ (field (.ref it) 0 >>= _) _ _ s
  refine wpAny_bind (wpAny_field ho hd (x:=.ref l) rfl ?_)
  show wpAny _ _ (if (Value.ref l == Value.none)=true then _ else _) _ _ s
  rw [if_neg (show ¬ ((Value.ref l == Value.none)=true) from Bool.false_ne_true)]
  show wpAny _ _ (field (.ref it) 1 >>= _) _ _ s
  refine wpAny_bind (wpAny_field ho hd (x:=.int i 0) rfl ?_)
  show wpAny _ _ (seqItems? (.ref l) >>= _) _ _ s
  refine wpAny_bind (wpAny_seqItems hol hdl ?_)
  simp only [Int.toNat_natCast,hx]
  refine wpAny_bind (wpAny_rule (wpAny_bind (wpAny_setField ho hd (by simp) ?_)))
  show wpAny _ _ (newExc (.type "StopIteration") [] >>= _) _ _ _
  refine wpAny_bind ?_
  simp only [newExc,newTuple]
  refine wpAny_bind (wpAny_newObj_type ?_ (by size_fits))
  refine wpAny_bind (m:=firstArgMember _ _) (wpAny_of_eq (a:=Value.none) (by first | rfl | (simp only [firstArgMember]; rfl)) ?_)
  refine wpAny_newObj_type ?_ (by size_fits)
  simp only [raiseNew]
  refine wpAny_bind (wpAny_handled ?_)
  first | rw [show A.in1.handled=none from hh] | rw [hh]
  refine wpAny_bind (wpAny_pure (wpAny_throw ?_))
  exact hE _ _ (((Heap.SameBut.update ..).extBut.push _).push _) ⟨_,Heap.get?_push_size _ rfl,rfl⟩
theorem nextOf_item {t:Bool} {it l:Addr} {i:Nat} {items:Array Value} {x:Value} {Q:Value->Shared->Prop} (hit:IterAt t s.heap it l i)
    (hl:HasItems t s.heap l items) (hx:items[i]?=some x)
    (hQ:∀ h',IterAt t h' it l (i + 1)->Heap.SameBut it s.heap h'->Q x { s with heap:=h' }) :
    wpAny (model prog w) A (Builtin.SmallTypes.nextOf (.ref it)) Q E s:=by
  cases t
  · exact wpAny_nextOf_list_item hit hl hx hQ
  · exact nextOf_tuple_item hit hl hx hQ
theorem nextOf_end {t:Bool} {it l:Addr} {i:Nat} {items:Array Value} {Q:Value->Shared->Prop} (hh:A.handled=none)
    (hit:IterAt t s.heap it l i) (hl:HasItems t s.heap l items) (hx:items[i]?=none)
    (hE:∀ h' e,Heap.ExtBut it s.heap h'->(∃ o,h'.get? e=some o/\o.cls=.type "StopIteration")->E (.ref e) { s with heap:=h' }) :
    wpAny (model prog w) A (Builtin.SmallTypes.nextOf (.ref it)) Q E s:=by
  cases t
  · exact wpAny_nextOf_list_end hh hit hl hx hE
  · exact nextOf_tuple_end hh hit hl hx hE
def iterObj (t:Bool) (l:Addr):Obj:=if t=true then { cls:=.type "tuple_iterator",data:=.fields #[.ref l,.int 0 0] } else { cls:=.type "list_iterator",data:=.fields #[.ref l,.int 0 0] }
theorem pyIter_seq {t:Bool} {l:Addr} {items:Array Value} {Q:Value->Shared->Prop} (hl:HasItems t s.heap l items)
    (hQ:Q (.ref s.heap.objs.size) { s with heap:=s.heap.push (iterObj t l) }):wpAny (model prog w) A (pyIter (.ref l)) Q E s:=by
  cases t
  · exact wpAny_pyIter_list hl hQ
  · exact wpAny_pyIter_tuple hl hQ
theorem iterObj_at {t:Bool} {h:Heap} {it l:Addr} (e:h.get? it=some (iterObj t l)):IterAt t h it l 0:=by
  cases t
  · exact ⟨_,e,rfl,rfl⟩
  · exact ⟨_,e,rfl,rfl⟩
theorem iterObj_free (t:Bool) (l:Addr):(iterObj t l).isFreed=false:=by cases t <;> rfl
theorem zipG_item {t1 t2:Bool} {z TI TO i1 i2 l1 l2:Addr} {k1 k2:Nat} {xs ys:Array Value} {x y a b:Value} {Q:Value->Shared->Prop} (D:ZipApart z TI TO i1 i2 l1 l2)
    (hz:IsZip s.heap z TI TO .none) (hTI:IsPair s.heap TI (.ref i1) (.ref i2)) (hTO:IsPair s.heap TO a b)
    (h1:IterAt t1 s.heap i1 l1 k1) (h2:IterAt t2 s.heap i2 l2 k2) (hl1:HasItems t1 s.heap l1 xs) (hl2:HasItems t2 s.heap l2 ys) (hx:xs[k1]?=some x) (hy:ys[k2]?=some y)
    (hQ:∀ h',IsZip h' z TI TO (rawInt s.heap.objs.size)->IsPair h' TO x y->IterAt t1 h' i1 l1 (k1 + 1)->IterAt t2 h' i2 l2 (k2 + 1)->IsPair h' s.heap.objs.size x y->h'.objs.size=s.heap.objs.size + 1 ->
      (∀ c o,c ≠ z->c ≠ TO->c ≠ i1->c ≠ i2->s.heap.get? c=some o->h'.get? c=some o)->Q (.ref s.heap.objs.size) { s with heap:=h' }) :
    wpAny (model prog w) A (Builtin.«zip.__next__» ⟨[.ref z],[]⟩) (fun fin s'=>∃ v,fin=.done (.ret v)/\Q v s') E s:=by
  show wpAny _ _ (field (.ref z) 2 >>= _) _ _ _
  refine wpAny_bind (wpAny_field hz rfl (x:=.bool false) rfl ?_)
  show wpAny _ _ (field (.ref z) 3 >>= _) _ _ _
  refine wpAny_bind (wpAny_field hz rfl (x:=.ref TI) rfl ?_)
  refine wpAny_bind (wpAny_seqItems hTI rfl ?_)
  show wpAny _ _ (Builtin.SmallTypes.ownedTupleIsFree (.ref z) >>= _) _ _ _
  refine wpAny_bind ?_
  unfold Builtin.SmallTypes.ownedTupleIsFree
  refine wpAny_bind (wpAny_field hz rfl (x:=.none) rfl (wpAny_pure ?_))
  simp only [if_true]
  refine wpAny_bind (wpAny_rule ?_)
  refine wpAny_bind (wpAny_field hz rfl (x:=.ref TO) rfl ?_)
  refine wpAny_bind (wpAny_setField_rec hz (by simp) fun h₁ hz₁ hs₁=>?_)
  replace hz₁:IsZip h₁ z TI TO .ellipsis:=hz₁
  refine wpAny_bind ?_
  simp only [List.zipIdx_cons,List.zipIdx_nil,List.forIn_cons,List.forIn_nil]
  refine wpAny_bind (wpAny_bind (wpAny_onRaise ?_))
  show wpAny _ _ (Builtin.SmallTypes.nextOf (.ref i1) >>= _) _ _ _
  refine wpAny_bind (nextOf_item (h1.at fun o e=>hs₁.extBut _ _ D.i1z e) (hl1.at fun o e=>hs₁.extBut _ _ D.l1z e) hx fun h₂ h1₂ hs₂=>wpAny_pure ?_)
  have hTO₂:IsPair h₂ TO a b:=hs₂.extBut _ _ D.TOi1 (hs₁.extBut _ _ D.TOz hTO)
  refine wpAny_bind (wpAny_seqItems hTO₂ rfl ?_)
  refine wpAny_bind (wpAny_updateSeq_pair hTO₂ fun h₃ hTO₃ hs₃=>?_)
  replace hTO₃:IsPair h₃ TO x b:=hTO₃
  refine wpAny_bind (wpAny_letGo (wpAny_pure ?_))
  refine wpAny_bind (wpAny_bind (wpAny_onRaise ?_))
  show wpAny _ _ (Builtin.SmallTypes.nextOf (.ref i2) >>= _) _ _ _
  refine wpAny_bind (nextOf_item (h2.at fun o e=>hs₃.extBut _ _ D.TOi2.symm (hs₂.extBut _ _ D.i12.symm (hs₁.extBut _ _ D.i2z e)))
    (hl2.at fun o e=>hs₃.extBut _ _ D.l2TO (hs₂.extBut _ _ D.l2i1 (hs₁.extBut _ _ D.l2z e))) hy fun h₄ h2₄ hs₄=>wpAny_pure ?_)
  have hTO₄:IsPair h₄ TO x b:=hs₄.extBut _ _ D.TOi2 hTO₃
  refine wpAny_bind (wpAny_seqItems hTO₄ rfl ?_)
  refine wpAny_bind (wpAny_updateSeq_pair hTO₄ fun h₅ hTO₅ hs₅=>?_)
  replace hTO₅:IsPair h₅ TO x y:=hTO₅
  refine wpAny_bind (wpAny_letGo (wpAny_pure (wpAny_pure ?_)))
  refine wpAny_bind (wpAny_seqItems hTO₅ rfl ?_)
  refine wpAny_bind (wpAny_newTuple ?_)
  have hsz:h₅.objs.size=s.heap.objs.size:=by rw [hs₅.1,hs₄.1,hs₃.1,hs₂.1,hs₁.1]
  have hz₅:IsZip h₅ z TI TO .ellipsis:=hs₅.extBut _ _ D.TOz.symm (hs₄.extBut _ _ D.i2z.symm (hs₃.extBut _ _ D.TOz.symm (hs₂.extBut _ _ D.i1z.symm hz₁)))
  have hk₅:∀ c o,c ≠ z->c ≠ TO->c ≠ i1->c ≠ i2->s.heap.get? c=some o->h₅.get? c=some o:=fun c o c1 c2 c3 c4 e=>
    hs₅.extBut _ _ c2 (hs₄.extBut _ _ c4 (hs₃.extBut _ _ c2 (hs₂.extBut _ _ c3 (hs₁.extBut _ _ c1 e))))
  have h1₅:IterAt t1 h₅ i1 l1 (k1 + 1):=h1₂.at fun o e=>hs₅.extBut _ _ D.TOi1.symm (hs₄.extBut _ _ D.i12 (hs₃.extBut _ _ D.TOi1.symm e))
  have h2₅:IterAt t2 h₅ i2 l2 (k2 + 1):=h2₄.at fun o e=>hs₅.extBut _ _ D.TOi2.symm e
  have hzlt:z < h₅.objs.size:=Heap.lt_size hz₅
  show wpAny _ _ (Builtin.SmallTypes.ownedTupleHandOut (.ref z) (.ref h₅.objs.size) >>= _) _ _ _
  refine wpAny_bind ?_
  unfold Builtin.SmallTypes.ownedTupleHandOut
  have hz₆:IsZip (h₅.push { cls:=.type "tuple",data:=.seq #[x,y] }) z TI TO .ellipsis:=Heap.get?_push_of_some _ hz₅
  refine wpAny_bind (wpAny_setField_rec hz₆ (by simp) fun h₇ hz₇ hs₇=>?_)
  replace hz₇:IsZip h₇ z TI TO (rawInt h₅.objs.size):=hz₇
  refine wpAny_setField_rec hz₇ (by simp) fun h₈ hz₈ hs₈=>?_
  replace hz₈:IsZip h₈ z TI TO (rawInt h₅.objs.size):=hz₈
  have up:∀ c o,c ≠ z->h₅.get? c=some o->h₈.get? c=some o:=fun c o c1 e=>hs₈.extBut _ _ c1 (hs₇.extBut _ _ c1 (Heap.get?_push_of_some _ e))
  have hT₈:IsPair h₈ h₅.objs.size x y:=hs₈.extBut _ _ (Nat.ne_of_gt hzlt) (hs₇.extBut _ _ (Nat.ne_of_gt hzlt) (Heap.get?_push_size _ rfl))
  have hz8:h₈.objs.size=h₅.objs.size + 1:=by rw [hs₈.1,hs₇.1,Heap.size_push]
  rw [hsz] at hz₈ hT₈ hz8
  refine wpAny_pure ⟨_,rfl,?_⟩
  show Q (.ref h₅.objs.size) _
  rw [hsz]
  exact hQ h₈ hz₈ (up _ _ D.TOz hTO₅) (h1₅.at fun o e=>up _ o D.i1z e) (h2₅.at fun o e=>up _ o D.i2z e) hT₈ hz8 fun c o c1 c2 c3 c4 e=>up c o c1 (hk₅ c o c1 c2 c3 c4 e)
theorem zipG_end {t1 t2:Bool} {z TI TO i1 i2 l1 l2:Addr} {k1 k2:Nat} {xs ys:Array Value} {a b:Value} {Q:Fin->Shared->Prop} (hh:A.handled=none) (D:ZipApart z TI TO i1 i2 l1 l2)
    (hz:IsZip s.heap z TI TO .none) (hTI:IsPair s.heap TI (.ref i1) (.ref i2)) (hTO:IsPair s.heap TO a b)
    (h1:IterAt t1 s.heap i1 l1 k1) (h2:IterAt t2 s.heap i2 l2 k2) (hl1:HasItems t1 s.heap l1 xs) (hl2:HasItems t2 s.heap l2 ys) (hend:xs[k1]?=none\/ys[k2]?=none)
    (hE:∀ h' e,(∀ c o,c ≠ z->c ≠ TO->c ≠ i1->c ≠ i2->s.heap.get? c=some o->h'.get? c=some o)->(∃ o,h'.get? e=some o/\o.cls=.type "StopIteration")->E (.ref e) { s with heap:=h' }) :
    wpAny (model prog w) A (Builtin.«zip.__next__» ⟨[.ref z],[]⟩) Q E s:=by
  show wpAny _ _ (field (.ref z) 2 >>= _) _ _ _
  refine wpAny_bind (wpAny_field hz rfl (x:=.bool false) rfl ?_)
  show wpAny _ _ (field (.ref z) 3 >>= _) _ _ _
  refine wpAny_bind (wpAny_field hz rfl (x:=.ref TI) rfl ?_)
  refine wpAny_bind (wpAny_seqItems hTI rfl ?_)
  show wpAny _ _ (Builtin.SmallTypes.ownedTupleIsFree (.ref z) >>= _) _ _ _
  refine wpAny_bind ?_
  unfold Builtin.SmallTypes.ownedTupleIsFree
  refine wpAny_bind (wpAny_field hz rfl (x:=.none) rfl (wpAny_pure ?_))
  simp only [if_true]
  refine wpAny_bind (wpAny_rule ?_)
  refine wpAny_bind (wpAny_field hz rfl (x:=.ref TO) rfl ?_)
  refine wpAny_bind (wpAny_setField_rec hz (by simp) fun h₁ hz₁ hs₁=>?_)
  replace hz₁:IsZip h₁ z TI TO .ellipsis:=hz₁
  refine wpAny_bind ?_
  simp only [List.zipIdx_cons,List.zipIdx_nil,List.forIn_cons,List.forIn_nil]
  refine wpAny_bind (wpAny_bind (wpAny_onRaise ?_))
  show wpAny _ _ (Builtin.SmallTypes.nextOf (.ref i1) >>= _) _ _ _
  cases hx:xs[k1]? with
  | none=>
    refine wpAny_bind (nextOf_end hh (h1.at fun o e=>hs₁.extBut _ _ D.i1z e) (hl1.at fun o e=>hs₁.extBut _ _ D.l1z e) hx fun h₂ e hs₂ he=>?_)
    obtain ⟨oe,hoe,hce⟩:=he
    have hz₂:IsZip h₂ z TI TO .ellipsis:=hs₂ _ _ D.i1z.symm hz₁
    have hez:e ≠ z:=fun x=>by subst x; rw [hz₂] at hoe; cases hoe; simp at hce
    refine wpAny_setField_rec hz₂ (by simp) fun h₃ _ hs₃=>hE h₃ e (fun c o c1 _ c3 _ x=>hs₃.extBut _ _ c1 (hs₂ _ _ c3 (hs₁.extBut _ _ c1 x))) ⟨oe,hs₃.extBut _ _ hez hoe,hce⟩
  | some x=>
    have hy:ys[k2]?=none:=by rcases hend with h | h; rw [hx] at h; cases h; exact h
    refine wpAny_bind (nextOf_item (h1.at fun o e=>hs₁.extBut _ _ D.i1z e) (hl1.at fun o e=>hs₁.extBut _ _ D.l1z e) hx fun h₂ h1₂ hs₂=>wpAny_pure ?_)
    have hTO₂:IsPair h₂ TO a b:=hs₂.extBut _ _ D.TOi1 (hs₁.extBut _ _ D.TOz hTO)
    refine wpAny_bind (wpAny_seqItems hTO₂ rfl ?_)
    refine wpAny_bind (wpAny_updateSeq_pair hTO₂ fun h₃ hTO₃ hs₃=>?_)
    refine wpAny_bind (wpAny_letGo (wpAny_pure ?_))
    refine wpAny_bind (wpAny_bind (wpAny_onRaise ?_))
    show wpAny _ _ (Builtin.SmallTypes.nextOf (.ref i2) >>= _) _ _ _
    refine wpAny_bind (nextOf_end hh (h2.at fun o e=>hs₃.extBut _ _ D.TOi2.symm (hs₂.extBut _ _ D.i12.symm (hs₁.extBut _ _ D.i2z e)))
      (hl2.at fun o e=>hs₃.extBut _ _ D.l2TO (hs₂.extBut _ _ D.l2i1 (hs₁.extBut _ _ D.l2z e))) hy fun h₄ e hs₄ he=>?_)
    obtain ⟨oe,hoe,hce⟩:=he
    have hz₄:IsZip h₄ z TI TO .ellipsis:=hs₄ _ _ D.i2z.symm (hs₃.extBut _ _ D.TOz.symm (hs₂.extBut _ _ D.i1z.symm hz₁))
    have hez:e ≠ z:=fun x=>by subst x; rw [hz₄] at hoe; cases hoe; simp at hce
    refine wpAny_setField_rec hz₄ (by simp) fun h₅ _ hs₅=>hE h₅ e (fun c o c1 c2 c3 c4 x=>hs₅.extBut _ _ c1 (hs₄ _ _ c4 (hs₃.extBut _ _ c2 (hs₂.extBut _ _ c3 (hs₁.extBut _ _ c1 x))))) ⟨oe,hs₅.extBut _ _ hez hoe,hce⟩
theorem next_zipG_item {t1 t2:Bool} {z TI TO i1 i2 l1 l2:Addr} {k1 k2:Nat} {xs ys:Array Value} {x y a b:Value} {Q:Option Value->Shared->Prop} (D:ZipApart z TI TO i1 i2 l1 l2)
    (hz:IsZip s.heap z TI TO .none) (hTI:IsPair s.heap TI (.ref i1) (.ref i2)) (hTO:IsPair s.heap TO a b)
    (h1:IterAt t1 s.heap i1 l1 k1) (h2:IterAt t2 s.heap i2 l2 k2) (hl1:HasItems t1 s.heap l1 xs) (hl2:HasItems t2 s.heap l2 ys) (hx:xs[k1]?=some x) (hy:ys[k2]?=some y)
    (hQ:∀ h',IsZip h' z TI TO (rawInt s.heap.objs.size)->IsPair h' TO x y->IterAt t1 h' i1 l1 (k1 + 1)->IterAt t2 h' i2 l2 (k2 + 1)->IsPair h' s.heap.objs.size x y->h'.objs.size=s.heap.objs.size + 1 ->
      (∀ c o,c ≠ z->c ≠ TO->c ≠ i1->c ≠ i2->s.heap.get? c=some o->h'.get? c=some o)->Q (some (.ref s.heap.objs.size)) { s with heap:=h' }) :
    wpAny (model prog w) A (pyNext (.ref z)) Q E s:=by
  have hT:s.TypeIs (.ref z) "zip" := ⟨_,hz,rfl⟩
  unfold pyNext
  exact wpAny_bind (wpAny_attempt (wpAny_callSpecial?_slot (name:=Str.ofString "__next__") hT F.slot_zip_next
    (wpAny_call_entry F.slot_zip_next hT F.entry_zip_next
      (zipG_item D hz hTI hTO h1 h2 hl1 hl2 hx hy fun h' a1 a2 a3 a4 a5 a6 a7=>wpAny_pure (hQ h' a1 a2 a3 a4 a5 a6 a7)) (F.args_zip_next_1 _))))
theorem next_zipG_end {t1 t2:Bool} {z TI TO i1 i2 l1 l2:Addr} {k1 k2:Nat} {xs ys:Array Value} {a b:Value} {Q:Option Value->Shared->Prop} (hh:A.handled=none) (D:ZipApart z TI TO i1 i2 l1 l2)
    (hz:IsZip s.heap z TI TO .none) (hTI:IsPair s.heap TI (.ref i1) (.ref i2)) (hTO:IsPair s.heap TO a b)
    (h1:IterAt t1 s.heap i1 l1 k1) (h2:IterAt t2 s.heap i2 l2 k2) (hl1:HasItems t1 s.heap l1 xs) (hl2:HasItems t2 s.heap l2 ys) (hend:xs[k1]?=none\/ys[k2]?=none)
    (hQ:∀ h',(∀ c o,c ≠ z->c ≠ TO->c ≠ i1->c ≠ i2->s.heap.get? c=some o->h'.get? c=some o)->Q none { s with heap:=h' }):wpAny (model prog w) A (pyNext (.ref z)) Q E s:=by
  have hT:s.TypeIs (.ref z) "zip" := ⟨_,hz,rfl⟩
  unfold pyNext
  refine wpAny_bind (wpAny_attempt (wpAny_callSpecial?_slot (name:=Str.ofString "__next__") hT F.slot_zip_next
    (wpAny_call_entry F.slot_zip_next hT F.entry_zip_next (zipG_end hh D hz hTI hTO h1 h2 hl1 hl2 hend fun h' e hk he=>?_) (F.args_zip_next_1 _))))
  obtain ⟨o,ho,hc⟩:=he
  refine wpAny_bind (wpAny_isInstance (T := "StopIteration") (b:=true) ⟨o,ho,hc⟩ isSubtype_stop ?_)
  exact wpAny_pure (hQ _ hk)
end
def zH1 (t1:Bool) (h:Heap) (l1:Addr):Heap:=h.push (iterObj t1 l1)
def zH2 (t1 t2:Bool) (h:Heap) (l1 l2:Addr):Heap:=(zH1 t1 h l1).push (iterObj t2 l2)
def zH3 (t1 t2:Bool) (h:Heap) (l1 l2:Addr):Heap:=(zH2 t1 t2 h l1 l2).push { cls:=.type "tuple",data:=.seq #[.ref h.objs.size,.ref (zH1 t1 h l1).objs.size] }
def zH4 (t1 t2:Bool) (h:Heap) (l1 l2:Addr):Heap:=(zH3 t1 t2 h l1 l2).push { cls:=.type "tuple",data:=.seq #[.none,.none] }
def zH5 (t1 t2:Bool) (h:Heap) (l1 l2:Addr):Heap:=(zH4 t1 t2 h l1 l2).push { cls:=.type "zip",data:=.fields #[.none,.bool false,.bool false,.ref (zH2 t1 t2 h l1 l2).objs.size,.ref (zH3 t1 t2 h l1 l2).objs.size] }
theorem meets_zipG_new (t1 t2:Bool) (l1 l2:Addr) (xs ys:Array Value) :
    Meets (Builtin.«zip.__new__» ⟨[.type "zip",.ref l1,.ref l2],[]⟩) (fun _ R s=>HasItems t1 s.heap l1 xs/\HasItems t2 s.heap l2 ys /\
      R (.ok (.ret (.ref (zH4 t1 t2 s.heap l1 l2).objs.size))) { s with heap:=zH5 t1 t2 s.heap l1 l2 }):=
  .of_wp fun prog w A R s h=>by
    obtain ⟨hp,g,d,tk,os⟩:=s; obtain ⟨hl1,hl2,h⟩:=h
    have hsub:=sub_zip
    have hL1:HasItems t1 (Shared.heap ⟨hp,g,d,tk,os⟩) l1 xs:=hl1
    have hL2:HasItems t2 (Shared.heap ⟨hp.push (iterObj t1 l1),g,d,tk,os⟩) l2 ys:=hl2.at fun o e=>Heap.get?_push_of_some _ e
    wp_walk using pyIter_seq hL1,pyIter_seq hL2
    exact ⟨_,rfl,h⟩
section
variable {prog:Program} {w:World} {A:Around} {E:Value->Shared->Prop} {s:Shared}
theorem call_zipG {t1 t2:Bool} {l1 l2:Addr} {xs ys:Array Value} {Q:Value->Shared->Prop} (hl1:HasItems t1 s.heap l1 xs) (hl2:HasItems t2 s.heap l2 ys)
    (h:∀ h',IsZip h' (s.heap.objs.size + 4) (s.heap.objs.size + 2) (s.heap.objs.size + 3) .none->IsPair h' (s.heap.objs.size + 2) (.ref s.heap.objs.size) (.ref (s.heap.objs.size + 1)) ->
      IsPair h' (s.heap.objs.size + 3) .none .none->IterAt t1 h' s.heap.objs.size l1 0->IterAt t2 h' (s.heap.objs.size + 1) l2 0->h'.objs.size=s.heap.objs.size + 5 ->
      (∀ c o,s.heap.get? c=some o->h'.get? c=some o)->Q (.ref (s.heap.objs.size + 4)) { s with heap:=h' }) :
    wpAny (model prog w) A (call (.type "zip") [.ref l1,.ref l2]) Q E s:=by
  refine callType_new F.called_zip (by decide) (F.typeCall_zip_2 _ _) (F.newCall_zip_2 _ _) (fun obj=>F.args_object_init_3 obj _ _) F.entry_zip_new
    (meets_zipG_new t1 t2 l1 l2 xs ys) ⟨hl1,hl2,?_⟩
  have z1:(zH1 t1 s.heap l1).objs.size=s.heap.objs.size + 1:=Heap.size_push ..
  have z2:(zH2 t1 t2 s.heap l1 l2).objs.size=s.heap.objs.size + 2:=by unfold zH2; rw [Heap.size_push,z1]
  have z3:(zH3 t1 t2 s.heap l1 l2).objs.size=s.heap.objs.size + 3:=by unfold zH3; rw [Heap.size_push,z2]
  have z4:(zH4 t1 t2 s.heap l1 l2).objs.size=s.heap.objs.size + 4:=by unfold zH4; rw [Heap.size_push,z3]
  have z5:(zH5 t1 t2 s.heap l1 l2).objs.size=s.heap.objs.size + 5:=by unfold zH5; rw [Heap.size_push,z4]
  have g5:(zH5 t1 t2 s.heap l1 l2).get? (zH4 t1 t2 s.heap l1 l2).objs.size=some { cls:=.type "zip",data:=.fields #[.none,.bool false,.bool false,.ref (zH2 t1 t2 s.heap l1 l2).objs.size,.ref (zH3 t1 t2 s.heap l1 l2).objs.size] }:=Heap.get?_push_size _ rfl
  have g4:(zH5 t1 t2 s.heap l1 l2).get? (zH3 t1 t2 s.heap l1 l2).objs.size=some { cls:=.type "tuple",data:=.seq #[.none,.none] }:=Heap.get?_push_of_some _ (Heap.get?_push_size _ rfl)
  have g3:(zH5 t1 t2 s.heap l1 l2).get? (zH2 t1 t2 s.heap l1 l2).objs.size=some { cls:=.type "tuple",data:=.seq #[.ref s.heap.objs.size,.ref (zH1 t1 s.heap l1).objs.size] }:=Heap.get?_push_of_some _ (Heap.get?_push_of_some _ (Heap.get?_push_size _ rfl))
  have g2:(zH5 t1 t2 s.heap l1 l2).get? (zH1 t1 s.heap l1).objs.size=some (iterObj t2 l2):=Heap.get?_push_of_some _ (Heap.get?_push_of_some _ (Heap.get?_push_of_some _ (Heap.get?_push_size _ (iterObj_free _ _))))
  have g1:(zH5 t1 t2 s.heap l1 l2).get? s.heap.objs.size=some (iterObj t1 l1):=Heap.get?_push_of_some _ (Heap.get?_push_of_some _ (Heap.get?_push_of_some _ (Heap.get?_push_of_some _ (Heap.get?_push_size _ (iterObj_free _ _)))))
  show _/\_
  rw [z2,z3,z4] at g5
  rw [z1,z2] at g3
  rw [z3] at g4
  rw [z1] at g2
  rw [z4]
  exact ⟨⟨_,g5,rfl⟩,h _ g5 g3 g4 (iterObj_at g1) (iterObj_at g2) z5 fun c o x=>
    Heap.get?_push_of_some _ (Heap.get?_push_of_some _ (Heap.get?_push_of_some _ (Heap.get?_push_of_some _ (Heap.get?_push_of_some _ x))))⟩
end
def SqK (K:PySem.W.Frag) (t:Bool) (H:Hp) (a:Addr) (xs:List V):Prop:=if t=true then SqT K H a xs else SqL K H a xs
section
variable {X:Cx} {pins:List (Addr × Obj)} {σ:St} {H:Hp} {s:Shared}
theorem Inv.seqK {t:Bool} {a:Addr} {xs:List V} (I:Inv X pins σ H s) (h:SqK X.K t H a xs):∃ its:List Value,Vals xs its/\HasItems t s.heap a its.toArray/\xs.length<=sizeLine:=by
  cases t
  · obtain ⟨its,r,p,z⟩:=I.list h
    exact ⟨its,r,p.isList,z⟩
  · obtain ⟨its,r,p,z⟩:=I.tuple h
    exact ⟨its,r,p,z⟩
theorem Inv.seqK_inj {t:Bool} {a:Addr} {xs ys:List V} (I:Inv X pins σ H s) (h:SqK X.K t H a xs) (h':SqK X.K t H a ys):xs=ys:=by
  cases t
  · exact I.list_inj h h'
  · exact I.tuple_inj h h'
theorem Inv.turnedL {t':Nat} {its:List Addr} {h':Heap} (I:Inv X pins σ H s) (k:∀ b o,b ∉ its->s.heap.get? b=some o->h'.get? b=some o) (hf:∀ b ∈ its,FpOk X pins H b):Inv X pins σ H { s with heap:=h',toks:=t' }:=by
  have nit:∀ b u,H b=some u->b ∉ its:=fun b u e z=>by rw [(hf b z).1] at e; cases e
  refine I.step (g':=s.gens) (d':=s.drawn) (ch:=its) (fun b hb=>?_) (fun b o _ _ hc e _=>k b o hc e) (fun b o _ _ hc e _=>⟨o.slots,k b o hc e⟩) (fun _ _ _ _ n=>n)
    (fun b o hc e=>⟨o,k b o hc e⟩) (fun _ _ e=>e) (fun _ _ _ e=>e) (fun b ps e=>⟨#[],by rw [e]; simp⟩) (fun m hm=>?_) (fun b u e=>?_) I.bare
  · obtain ⟨f0,f1,f2,f3,f4,f5⟩:=hf b hb
    exact ⟨f3,f1,f4,f5⟩
  · obtain ⟨o,es,ep,ho,r⟩:=hm
    exact ⟨o,es,ep,k _ o (fun z=>(hf _ z).2.1 rfl) ho,r⟩
  · refine (I.hok b u e).stay (fun c v hc q=>k c v ?_ q) (fun _ q=>q) fun _ _ q=>q
    rcases hc with z | z
    · rw [z]; exact nit b u e
    · exact nit c _ z
end
def Itz (K:PySem.W.Frag) (t1 t2:Bool) (a b:Addr):It:=
  ⟨fun i H=>∃ xs ys x y,SqK K t1 H a xs/\SqK K t2 H b ys/\xs[i]?=some x/\ys[i]?=some y,
   fun i H v H'=>∃ p x y,H p=none/\v=.ref p/\H'=upd H p (.tup [x,y])/\∀ xs ys,SqK K t1 H a xs->SqK K t2 H b ys->xs[i]?=some x/\ys[i]?=some y,
   fun i H=>∃ xs ys,SqK K t1 H a xs/\SqK K t2 H b ys/\(xs.length<=i\/ys.length<=i)⟩
def zipSt (t1 t2:Bool) (z TI TO i1 i2 a b:Addr) (i:Nat) (h:Heap):Prop:=
  IsZip h z TI TO .none/\IsPair h TI (.ref i1) (.ref i2)/\(∃ u v,IsPair h TO u v)/\IterAt t1 h i1 a i/\IterAt t2 h i2 b i
theorem pair_cell {a b:Value}:∀ v,({ cls:=.type "tuple",data:=.seq #[a,b] }:Obj).data ≠ .cell v:=fun v z=>by cases z
theorem turn_zip {P:Program} {w:World} {K:PySem.W.Frag} {elts:List Expr} {k:Nat} {pos:Pos} {t1 t2:Bool} {z TI TO i1 i2 a b:Addr} (D:ZipApart z TI TO i1 i2 a b) :
    Turn P w K (.Tuple elts k pos) (Itz K t1 t2 a b) [z,TI,TO,i1,i2] z (zipSt t1 t2 z TI TO i1 i2 a b) where
  mem:=by simp
  obj:=fun i h st c hc=>by
    obtain ⟨hz,hTI,⟨u,v,hTO⟩,h1,h2⟩:=st
    simp at hc
    rcases hc with rfl | rfl | rfl | rfl | rfl
    · exact ⟨_,hz,fun v q=>by cases q⟩
    · exact ⟨_,hTI,pair_cell⟩
    · exact ⟨_,hTO,pair_cell⟩
    · exact h1.there
    · exact h2.there
  keep:=fun i h h' st kk=>by
    obtain ⟨hz,hTI,⟨u,v,hTO⟩,h1,h2⟩:=st
    exact ⟨kk z (by simp) _ hz,kk TI (by simp) _ hTI,⟨u,v,kk TO (by simp) _ hTO⟩,h1.at fun o e=>kk i1 (by simp) o e,h2.at fun o e=>kk i2 (by simp) o e⟩
  item:=by
    intro X hP hw hK hc i pins s σ H E I hf st hg
    subst hP hw hK
    obtain ⟨xs,ys,x,y,hq1,hq2,hx,hy⟩:=hg
    obtain ⟨hz,hTI,⟨u,v,hTO⟩,h1,h2⟩:=st
    obtain ⟨its,rv,p,_⟩:=I.seqK hq1
    obtain ⟨its2,rv2,p2,_⟩:=I.seqK hq2
    obtain ⟨ux,hux,rux⟩:=rv.get hx
    obtain ⟨uy,huy,ruy⟩:=rv2.get hy
    refine next_zipG_item D hz hTI hTO h1 h2 p p2 (x:=ux) (y:=uy) (by simpa using hux) (by simpa using huy) fun h' a1 a2 a3 a4 a5 a6 a7=>⟨_,rfl,?_⟩
    refine wpAny_letOwnedTupleGo_zip (s:={ s with heap:=h' }) a1 fun h'' b1 b2=>?_
    have hfr:H s.heap.objs.size=none:=I.fresh
    have zlt:z < s.heap.objs.size:=Heap.lt_size hz
    have TIlt:TI < s.heap.objs.size:=Heap.lt_size hTI
    have TOlt:TO < s.heap.objs.size:=Heap.lt_size hTO
    have i1lt:i1 < s.heap.objs.size:=by obtain ⟨o,e,_⟩:=h1.there; exact Heap.lt_size e
    have i2lt:i2 < s.heap.objs.size:=by obtain ⟨o,e,_⟩:=h2.there; exact Heap.lt_size e
    have I1:Inv X pins σ H { s with heap:=h'' }:=I.turnedL (t':=s.toks) (its:=[z,TO,i1,i2]) (fun c o hc e=>(b2.2 c (fun q=>hc (by simp [q]))).trans (a7 c o (fun q=>hc (by simp [q])) (fun q=>hc (by simp [q])) (fun q=>hc (by simp [q])) (fun q=>hc (by simp [q])) e))
      fun c hc=>hf c (by simp at hc ⊢; rcases hc with rfl | rfl | rfl | rfl <;> simp)
    have tupAt:IsPair h'' s.heap.objs.size ux uy:=(b2.2 _ (Nat.ne_of_gt zlt)).trans a5
    have fsz:H s.heap.objs.size=none:=hfr
    have I2:Inv X pins σ (upd H s.heap.objs.size (.tup [x,y])) { s with heap:=h'' }:=by
      refine ⟨I1.ok,I1.os,I1.bare,?_,I1.loc,I1.cell,?_,?_,?_,?_,I1.len⟩
      · have u0:=I1.base
        have old:∀ c o,X.s₀.heap.get? c=some o->c ≠ s.heap.objs.size:=fun c o e=>Nat.ne_of_lt (Nat.lt_of_lt_of_le (Heap.lt_size e) I.sz)
        exact ⟨u0.keep,u0.slot,fun c o e n hx=>by rw [upd_ne (old c o e)]; exact u0.free c o e n hx,u0.there,
          fun c ts e=>by have:=u0.tups c ts e; rw [upd_ne (ne_of_none this fsz)]; exact this,
          fun c o ts e=>by have:=u0.frzs c o ts e; rw [upd_ne (ne_of_none this fsz)]; exact this,
          fun c ps e=>by obtain ⟨more,q⟩:=u0.tbls c ps e; exact ⟨more,by rw [upd_ne (ne_of_none q fsz)]; exact q⟩⟩
      · rw [upd_ne (Nat.ne_of_lt I.lt)]; exact I.free
      · intro x' c e
        obtain ⟨v',q⟩:=I.cell x' c e
        rw [upd_ne (Nat.ne_of_lt q.lt)]; exact I.freeC x' c e
      · intro p' hp'
        obtain ⟨e,n,ne,nf,d⟩:=I1.pin p' hp'
        have e0:=(I.pin p' hp').1
        exact ⟨e,by rw [upd_ne (Nat.ne_of_lt (Heap.lt_size e0))]; exact n,ne,nf,d⟩
      · intro c o q
        by_cases hcs:c=s.heap.objs.size
        · subst hcs
          rw [upd_same] at q; cases q
          exact ⟨by simp only [List.length_cons,List.length_nil]; rw [sizeLine_eq]; decide,[ux,uy],.cons rux (.cons ruy .nil),⟨_,tupAt,rfl,0,rfl⟩⟩
        · rw [upd_ne hcs] at q
          exact (I1.hok c o q).stay (fun _ _ _ r=>r) (fun c' r=>by rw [upd_ne (ne_of_none r fsz)]; exact r) fun c' ts r=>by rw [upd_ne (ne_of_none r fsz)]; exact r
    refine ⟨.ref s.heap.objs.size,_,I2,rfl,⟨s.heap.objs.size,x,y,fsz,rfl,rfl,fun xs' ys' q1 q2=>?_⟩,?_,fun c hc=>?_⟩
    · rw [I.seqK_inj q1 hq1,I.seqK_inj q2 hq2]; exact ⟨hx,hy⟩
    · exact ⟨b1,b2.extBut _ _ D.TIz (a7 _ _ D.TIz D.TITO D.TIi1 D.TIi2 hTI),⟨_,_,b2.extBut _ _ D.TOz a2⟩,a3.at fun o e=>b2.extBut _ _ D.i1z e,a4.at fun o e=>b2.extBut _ _ D.i2z e⟩
    · have:=(hf c hc).1
      have clt:c < s.heap.objs.size:=by simp at hc; rcases hc with rfl | rfl | rfl | rfl | rfl <;> assumption
      rw [upd_ne (Nat.ne_of_lt clt)]; exact this
  done:=by
    intro X hP hw hK hc i pins s σ H E I hf st hg
    subst hP hw hK
    obtain ⟨xs,ys,hq1,hq2,hend⟩:=hg
    obtain ⟨hz,hTI,⟨u,v,hTO⟩,h1,h2⟩:=st
    obtain ⟨its,rv,p,_⟩:=I.seqK hq1
    obtain ⟨its2,rv2,p2,_⟩:=I.seqK hq2
    have l1:=rv.length
    have l2:=rv2.length
    refine next_zipG_end (I.ok.hd hc) D hz hTI hTO h1 h2 p p2 (hend.elim (fun h=>.inl (by simp; omega)) fun h=>.inr (by simp; omega)) fun h' kk=>⟨rfl,?_⟩
    exact I.turnedL (t':=s.toks) (its:=[z,TO,i1,i2]) (fun c o hc e=>kk c o (fun q=>hc (by simp [q])) (fun q=>hc (by simp [q])) (fun q=>hc (by simp [q])) (fun q=>hc (by simp [q])) e)
      fun c hc=>hf c (by simp at hc ⊢; rcases hc with rfl | rfl | rfl | rfl <;> simp)
  self:=fun _ _ _ _ _ st h=>wpAny_pyIter_zip st.1 h
section
variable {X:Cx}
def iZip (K:PySem.W.Frag) (t1 t2:Bool) (ta:TA):TI:=fun σ H R=>ta σ H fun vs H1=>∃ a b xs ys,vs=[.ref a,.ref b]/\SqK K t1 H1 a xs/\SqK K t2 H1 b ys/\R (Itz K t1 t2 a b) H1
theorem boot_zip:bootBuiltins "zip" = some (.type "zip"):=by decide +kernel
theorem pi_zip (t1 t2:Bool) {a b:Expr} {ta:TA} {p pos:Pos} {elts:List Expr} {k:Nat} {tp:Pos} (hg:Gl X "zip") (hm:X.mg "zip" = none) (ha:PA X [a,b] ta) (hs:starEach [a,b] X.env=[(false,eval a X.env),(false,eval b X.env)]:=by rfl) (hs2:starEach [b] X.env=[(false,eval b X.env)]:=by rfl) :
    PI X (.Tuple elts k tp) (.Call (.Name "zip" p) [a,b] [] pos) (iZip X.K t1 t2 ta):=by
  intro pins s σ H R I h
  refine Call_ (ld_blt I hg hm boot_zip (PyProof.Rows.callWith_type1 (thn (ha pos pins s σ H _ I h) fun us s1 ⟨vs,H1,I1,r1,q1⟩=>?_) (by rw [hs,hs2]) (by rw [hs2]; rfl)))
  obtain ⟨a',b',xs,ys,e,q1,q2,q⟩:=q1
  subst e
  cases r1 with
  | cons r rr=>
    cases rr with
    | cons r' rr=>
      cases rr
      cases r
      cases r'
      obtain ⟨its,rv,p1,_⟩:=I1.seqK q1
      obtain ⟨its2,rv2,p2,_⟩:=I1.seqK q2
      refine call_zipG p1 p2 fun h' z1 z2 z3 z4 z5 z6 z7=>?_
      refine wpAny_pyIter_zip (s:={ s1 with heap:=h' }) z1 ?_
      have lta:a' < s1.heap.objs.size:=by obtain ⟨o,e⟩:=p1.there; exact Heap.lt_size e
      have ltb:b' < s1.heap.objs.size:=by obtain ⟨o,e⟩:=p2.there; exact Heap.lt_size e
      have D:ZipApart (s1.heap.objs.size + 4) (s1.heap.objs.size + 2) (s1.heap.objs.size + 3) s1.heap.objs.size (s1.heap.objs.size + 1) a' b':=by
        constructor <;> (intro z; unfold Addr at *; omega)
      refine ⟨_,[s1.heap.objs.size + 4,s1.heap.objs.size + 2,s1.heap.objs.size + 3,s1.heap.objs.size,s1.heap.objs.size + 1],_,_,H1,rfl,I1.kept (t':=s1.toks) z7,turn_zip (t1:=t1) (t2:=t2) D,⟨z1,z2,⟨_,_,z3⟩,z4,z5⟩,fun c hc=>?_,q⟩
      have hc':s1.heap.objs.size<=c:=by simp at hc; unfold Addr at *; omega
      exact I1.fpOk hc' (I1.hok.fresh hc')
end
end L2
namespace L2
open PySem PySem.Spec PyProof.Rows
theorem walksK {prog:Program} {w:World} {A:Around} (hh:A.handled=none) (t:Bool) (I ax:Addr) (hne:ax ≠ I) (items:Array Value) :
    Walks prog w A I [I,ax] [I] items.size (fun i v=>items[i]?=some v) (fun i h=>IterAt t h I ax i/\HasItems t h ax items):=by
  cases t
  · exact Walks.list hh I ax hne items
  · exact Walks.tuple hh I ax hne items
theorem getD_at {α:Type} (l:List α) (d:α) {n:Nat} (h:n < l.length):l.getD n d=l[n]:=by simp [List.getD,h]
theorem preSum_list (ns:List Int):preSum (fun j=>ns.getD j 0) ns.length=ns.sum:=by
  have key:∀ (k:Nat),k<=ns.length->preSum (fun j=>ns.getD j 0) k=(ns.take k).sum:=by
    intro k
    induction k with
    | zero=>intro _; rfl
    | succ k ih=>
      intro hk
      show preSum _ k + ns.getD k 0=_
      have hlt:k < ns.length:=by omega
      rw [ih (by omega),List.take_succ,List.sum_append,getD_at _ _ hlt,List.getElem?_eq_getElem hlt]
      simp
  rw [key ns.length (Nat.le_refl _),List.take_length]
section
variable {X:Cx} {pins:List (Addr × Obj)} {σ:St} {H:Hp} {s:Shared}
theorem Inv.movedNew {s':Shared} (I:Inv X pins σ H s) {o:Obj} (m:Moved [s.heap.objs.size] (fun a b=>b=a) { s with heap:=s.heap.push o } s'):Inv X pins σ H s':=by
  obtain ⟨m1,m2,m3,m4,m5⟩:=m
  obtain ⟨h',g',d',t',o'⟩:=s'
  have e1:g'=s.gens:=m2
  have e2:d'=s.drawn:=m3
  have e3:o'=s.os:=m4
  subst e1 e2 e3
  refine I.kept (t':=t') fun b u e=>m1 b u (fun z=>?_) (Heap.get?_push_of_some _ e)
  have:b=s.heap.objs.size:=by simpa using z
  exact absurd (Heap.lt_size e) (by rw [this]; exact Nat.lt_irrefl _)
theorem ints_get {ns:List Int} {its:List Value} (r:Vals (ns.map V.int) its):∀ (i:Nat) (v:Value),its.toArray[i]?=some v->∃ t,v=Value.int (ns.getD i 0) t:=fun i v e=>by
  have e':its[i]?=some v:=by simpa using e
  have hi:i < its.length:=(List.getElem?_eq_some_iff.mp e').1
  have hl:=r.length
  rw [List.length_map] at hl
  have hn:(ns.map V.int)[i]?=some (V.int (ns.getD i 0)):=by
    have:i < ns.length:=by omega
    simp [List.getD,this]
  obtain ⟨u,hu,t,ru⟩:=r.get hn
  rw [e'] at hu
  cases hu
  exact ⟨t,ru⟩
theorem bools_get {bs:List Bool} {its:List Value} (r:Vals (bs.map V.bl) its):∀ (i:Nat) (v:Value),its.toArray[i]?=some v->v=Value.bool (bs.getD i false):=fun i v e=>by
  have e':its[i]?=some v:=by simpa using e
  have hi:i < its.length:=(List.getElem?_eq_some_iff.mp e').1
  have hl:=r.length
  rw [List.length_map] at hl
  have hn:(bs.map V.bl)[i]?=some (V.bl (bs.getD i false)):=by
    have:i < bs.length:=by omega
    simp [List.getD,this]
  obtain ⟨u,hu,ru⟩:=r.get hn
  rw [e'] at hu
  cases hu
  exact ru
theorem iterObj_walk {t:Bool} {l:Addr} {items:Array Value} (hl:HasItems t s.heap l items):l ≠ s.heap.objs.size /\
    (IterAt t (s.heap.push (iterObj t l)) s.heap.objs.size l 0/\HasItems t (s.heap.push (iterObj t l)) l items)/\∀ b ∈ [s.heap.objs.size,l],b < (s.heap.push (iterObj t l)).objs.size:=by
  obtain ⟨o,e⟩:=hl.there
  have hlt:=Heap.lt_size e
  refine ⟨Nat.ne_of_lt hlt,⟨iterObj_at (Heap.get?_push_size _ (iterObj_free _ _)),hl.at fun o e=>Heap.get?_push_of_some _ e⟩,fun b hb=>?_⟩
  rw [Heap.size_push]
  simp at hb
  rcases hb with rfl | rfl
  · exact Nat.lt_succ_self _
  · exact Nat.lt_succ_of_lt hlt
end
section
variable {X:Cx}
theorem call_sum (t:Bool) (hc:X.calm=true):CallR X (.builtin "sum") (fun xs H Q=>∃ (a:Addr) (ns:List Int),xs=[.ref a]/\SqK X.K t H a (ns.map V.int)/\Q (.int ns.sum) H):=by
  intro pins s σ H xs us Q I r h
  obtain ⟨a,ns,rfl,hq,q⟩:=h
  obtain ⟨u,rfl,r1⟩:=vals1 r
  cases r1
  obtain ⟨its,rv,p,_⟩:=I.seqK hq
  obtain ⟨w1,w2,w3⟩:=iterObj_walk p
  have hl:=rv.length
  rw [List.length_map] at hl
  refine call_sum_walkAnyS (pyIter_seq p ⟨_,_,_,_,_,_,_,fun j=>ns.getD j 0,rfl,(walksK (A:=X.A.in1) (I.ok.hd hc) t _ a w1 its.toArray).toS,w2,w3,ints_get rv,fun s' t' m=>?_⟩)
  refine ⟨.int ns.sum,H,I.movedNew m,⟨t',?_⟩,q⟩
  rw [List.size_toArray,<- hl,preSum_list]
theorem range_all (bs:List Bool):(List.range bs.length).all (fun i=>bs.getD i false)=bs.all id:=by
  induction bs with
  | nil=>rfl
  | cons b r ih=>
    rw [List.length_cons,List.range_succ_eq_map,List.all_cons,List.all_map,List.all_cons,<- ih]
    rfl
theorem range_any (bs:List Bool):(List.range bs.length).any (fun i=>bs.getD i false)=bs.any id:=by
  induction bs with
  | nil=>rfl
  | cons b r ih=>
    rw [List.length_cons,List.range_succ_eq_map,List.any_cons,List.any_map,List.any_cons,<- ih]
    rfl
theorem call_all (t:Bool) (hc:X.calm=true):CallR X (.builtin "all") (fun xs H Q=>∃ (a:Addr) (bs:List Bool),xs=[.ref a]/\SqK X.K t H a (bs.map V.bl)/\Q (.bl (bs.all id)) H):=by
  intro pins s σ H xs us Q I r h
  obtain ⟨a,bs,rfl,hq,q⟩:=h
  obtain ⟨u,rfl,r1⟩:=vals1 r
  cases r1
  obtain ⟨its,rv,p,_⟩:=I.seqK hq
  obtain ⟨w1,w2,w3⟩:=iterObj_walk p
  have hl:=rv.length
  rw [List.length_map] at hl
  refine call_all_walkS (pyIter_seq p ⟨_,_,_,_,_,_,_,fun j=>bs.getD j false,rfl,(walksK (A:=X.A.in1) (I.ok.hd hc) t _ a w1 its.toArray).toS,w2,fun i v s' Q' E' hv hQ=>?_,fun s' m=>?_⟩)
  · rw [bools_get rv i v hv]
    exact wpAny_truthy_bool hQ
  · refine ⟨.bl (bs.all id),H,I.movedNew m,?_,q⟩
    show Value.bool _=_
    rw [List.size_toArray,<- hl,range_all]
theorem call_any (t:Bool) (hc:X.calm=true):CallR X (.builtin "any") (fun xs H Q=>∃ (a:Addr) (bs:List Bool),xs=[.ref a]/\SqK X.K t H a (bs.map V.bl)/\Q (.bl (bs.any id)) H):=by
  intro pins s σ H xs us Q I r h
  obtain ⟨a,bs,rfl,hq,q⟩:=h
  obtain ⟨u,rfl,r1⟩:=vals1 r
  cases r1
  obtain ⟨its,rv,p,_⟩:=I.seqK hq
  obtain ⟨w1,w2,w3⟩:=iterObj_walk p
  have hl:=rv.length
  rw [List.length_map] at hl
  refine call_any_walkS (pyIter_seq p ⟨_,_,_,_,_,_,_,fun j=>bs.getD j false,rfl,(walksK (A:=X.A.in1) (I.ok.hd hc) t _ a w1 its.toArray).toS,w2,fun i v s' Q' E' hv hQ=>?_,fun s' m=>?_⟩)
  · rw [bools_get rv i v hv]
    exact wpAny_truthy_bool hQ
  · refine ⟨.bl (bs.any id),H,I.movedNew m,?_,q⟩
    show Value.bool _=_
    rw [List.size_toArray,<- hl,range_any]
theorem call_minL (t:Bool) (hc:X.calm=true):CallR X (.builtin "min") (fun xs H Q=>∃ (a:Addr) (ns:List Int),xs=[.ref a]/\SqK X.K t H a (ns.map V.int)/\ns ≠ []/\∀ m,m ∈ ns->(∀ k,k ∈ ns->m<=k)->Q (.int m) H):=by
  intro pins s σ H xs us Q I r h
  obtain ⟨a,ns,rfl,hq,hne,q⟩:=h
  obtain ⟨u,rfl,r1⟩:=vals1 r
  cases r1
  obtain ⟨its,rv,p,_⟩:=I.seqK hq
  obtain ⟨w1,w2,w3⟩:=iterObj_walk p
  have hl:=rv.length
  rw [List.length_map] at hl
  have hpos:0 < ns.length:=List.length_pos_iff.mpr hne
  refine call_min_walkS (pyIter_seq p ⟨_,_,_,_,_,_,_,_,rfl,(walksK (A:=X.A.in1) (I.ok.hd hc) t _ a w1 its.toArray).toS,w2,w3,by rw [List.size_toArray]; omega,CmpOf.ints_lt (fun j=>ns.getD j 0) (fun i v hv=>ints_get rv i v hv),fun v s' hv m=>?_⟩)
  obtain ⟨t',rfl⟩:=ints_get rv _ _ hv
  obtain ⟨h1,h2⟩:=argBest_lt (fun j=>ns.getD j 0) (its.toArray.size - 1)
  have hb:argBest (fun i j=>decide (ns.getD i 0 < ns.getD j 0)) (its.toArray.size - 1) < ns.length:=by
    have e':its.toArray.size=ns.length:=by rw [List.size_toArray]; omega
    rw [e'] at h1 ⊢
    exact Nat.lt_of_le_of_lt h1 (by omega)
  refine ⟨.int (ns.getD (argBest (fun i j=>decide (ns.getD i 0 < ns.getD j 0)) (its.toArray.size - 1)) 0),H,I.movedNew m,⟨t',rfl⟩,q _ ?_ fun k hk=>?_⟩
  · rw [getD_at _ _ hb]
    exact List.getElem_mem hb
  · obtain ⟨j,hj,rfl⟩:=List.mem_iff_getElem.mp hk
    have:=h2 j (by rw [List.size_toArray]; omega)
    rw [getD_at _ _ hj] at this
    exact this
end
theorem drawsK {prog:Program} {w:World} {A:Around} (hh:A.handled=none) (t:Bool) (it l:Addr) (hne:l ≠ it) (items:Array Value) :
    Draws prog w A it [it,l] items.size (fun i v=>items[i]?=some v) (fun i h=>IterAt t h it l i/\HasItems t h l items) where
  live:=fun _ _ st=>let ⟨o,e,_⟩:=st.1.there; ⟨o,e⟩
  frame:=fun _ _ _ st hk=>⟨st.1.at fun o e=>hk it (by simp) o e,st.2.at fun o e=>hk l (by simp) o e⟩
  item:=fun i s Q E hi st hQ=>by
    refine nextOf_item st.1 st.2 (x:=items[i]) (by simp [hi]) fun h' hit' hs'=>?_
    exact hQ _ h' s.toks (by simp [hi]) ⟨hit',st.2.at fun o e=>hs'.extBut _ _ hne e⟩ hs'
  done:=fun s Q E st hE=>nextOf_end hh st.1 st.2 (by simp) hE
theorem meets_enumT (l:Addr) (items:Array Value) (n:Nat) (dct:Option Addr) (sl:Array (Option Value)) :
    Meets (Builtin.«enumerate.__new__» ⟨[.type "enumerate",.ref l],[]⟩) (fun _ R s=>s.heap.get? l=some { cls:=.type "tuple",dict:=dct,data:=.seq items n,slots:=sl } /\
      R (.ok (.ret (.ref (s.heap.push { cls:=.type "tuple_iterator",data:=.fields #[.ref l,.int 0 0] }).objs.size)))
        { s with heap:=(s.heap.push { cls:=.type "tuple_iterator",data:=.fields #[.ref l,.int 0 0] }).push { cls:=.type "enumerate",data:=.fields #[.none,.bool false,.ref s.heap.objs.size,rawInt 0,.none,.none] } }):=
  .of_wp fun prog w A R s h=>by
    obtain ⟨hp,g,d,tk,os⟩:=s; obtain ⟨hl,h⟩:=h
    have hsub:=sub_enumerate
    have hL:Heap.IsTuple (Shared.heap ⟨hp,g,d,tk,os⟩) l items:=⟨_,hl,rfl,n,rfl⟩
    wp_walk using AutoSeq1.wpAny_loadPart' hl
    refine wpAny_stack_any fun st=>wpAny_pure ?_
    split
    · rename_i c _ _ _ _ _
      cases (c == Value.type "enumerate")
      · wp_walk using AutoSeq1.wpAny_loadPart' hl,wpAny_pyIter_tuple hL
        exact ⟨_,rfl,h⟩
      · wp_walk using AutoSeq1.wpAny_loadPart' hl,wpAny_pyIter_tuple hL
        exact ⟨_,rfl,h⟩
    · wp_walk using AutoSeq1.wpAny_loadPart' hl,wpAny_pyIter_tuple hL
      exact ⟨_,rfl,h⟩
section
variable {prog:Program} {w:World} {A:Around} {E:Value->Shared->Prop} {s:Shared}
theorem call_enumT {l:Addr} {items:Array Value} {Q:Value->Shared->Prop} (hL:s.heap.IsTuple l items)
    (h:∀ h',IsEnum h' (s.heap.objs.size + 1) s.heap.objs.size 0 .none->h'.IsTupleIter s.heap.objs.size l 0->h'.objs.size=s.heap.objs.size + 2 ->
      (∀ b o,s.heap.get? b=some o->h'.get? b=some o)->Q (.ref (s.heap.objs.size + 1)) { s with heap:=h' }) :
    wpAny (model prog w) A (call (.type "enumerate") [.ref l]) Q E s:=by
  obtain ⟨⟨c,dct,dt,sl⟩,hl,hc,n,hd⟩:=hL
  replace hc:c=.type "tuple" := hc
  replace hd:dt=.seq items n:=hd
  subst hc hd
  refine callType_new F.called_enumerate (by decide) (F.typeCall_enumerate_1 _) (F.newCall_enumerate_1 _) (fun obj=>F.args_object_init_2 obj _) F.entry_enumerate_new
    (meets_enumT l items n dct sl) ⟨hl,?_⟩
  have hz:(s.heap.push { cls:=.type "tuple_iterator",data:=.fields #[.ref l,.int 0 0] }).objs.size=s.heap.objs.size + 1:=Heap.size_push ..
  show _/\_
  rw [hz]
  have he:IsEnum ((s.heap.push { cls:=.type "tuple_iterator",data:=.fields #[.ref l,.int 0 0] }).push
      { cls:=.type "enumerate",data:=.fields #[.none,.bool false,.ref s.heap.objs.size,rawInt 0,.none,.none] }) (s.heap.objs.size + 1) s.heap.objs.size 0 .none:=by
    have:=Heap.get?_push_size (s.heap.push { cls:=.type "tuple_iterator",data:=.fields #[.ref l,.int 0 0] })
      (o:={ cls:=.type "enumerate",data:=.fields #[.none,.bool false,.ref s.heap.objs.size,rawInt 0,.none,.none] }) rfl
    rw [hz] at this; exact this
  refine ⟨⟨_,he,rfl⟩,h _ he ⟨_,Heap.get?_push_of_some _ (Heap.get?_push_size _ rfl),rfl,rfl⟩ (by rw [Heap.size_push,hz]) fun b o x=>Heap.get?_push_of_some _ (Heap.get?_push_of_some _ x)⟩
theorem call_enumG {t:Bool} {l:Addr} {items:Array Value} {Q:Value->Shared->Prop} (hL:HasItems t s.heap l items)
    (h:∀ h',IsEnum h' (s.heap.objs.size + 1) s.heap.objs.size 0 .none->IterAt t h' s.heap.objs.size l 0->h'.objs.size=s.heap.objs.size + 2 ->
      (∀ b o,s.heap.get? b=some o->h'.get? b=some o)->Q (.ref (s.heap.objs.size + 1)) { s with heap:=h' }) :
    wpAny (model prog w) A (call (.type "enumerate") [.ref l]) Q E s:=by
  cases t
  · exact call_enumerate_list hL h
  · exact call_enumT hL h
end
def Ite (K:PySem.W.Frag) (t:Bool) (a:Addr):It:=
  ⟨fun i H=>∃ xs x,SqK K t H a xs/\xs[i]?=some x,
   fun i H v H'=>∃ p x,H p=none/\v=.ref p/\H'=upd H p (.tup [.int i,x])/\∀ xs,SqK K t H a xs->xs[i]?=some x,
   fun i H=>∃ xs,SqK K t H a xs/\xs.length<=i⟩
theorem Inv.tracks {X:Cx} {pins:List (Addr × Obj)} {σ:St} {H:Hp} {s s1:Shared} {p:Addr} {xs:List V} {its:List Value} (I:Inv X pins σ H s) (I1:Inv X pins σ H s1) (hp:s.heap.objs.size<=p) (hn:H p=none) (rv:Vals xs its) (hz:xs.length<=sizeLine)
    (ht:IsTup s1.heap p its.toArray):Inv X pins σ (upd H p (.tup xs)) s1:=by
  refine ⟨I1.ok,I1.os,I1.bare,?_,I1.loc,I1.cell,?_,?_,?_,?_,I1.len⟩
  · have u0:=I1.base
    have old:∀ c o,X.s₀.heap.get? c=some o->c ≠ p:=fun c o e=>Nat.ne_of_lt (Nat.lt_of_lt_of_le (Heap.lt_size e) (Nat.le_trans I.sz hp))
    exact ⟨u0.keep,u0.slot,fun c o e n hx=>by rw [upd_ne (old c o e)]; exact u0.free c o e n hx,u0.there,
      fun c ts e=>by have:=u0.tups c ts e; rw [upd_ne (ne_of_none this hn)]; exact this,
      fun c o ts e=>by have:=u0.frzs c o ts e; rw [upd_ne (ne_of_none this hn)]; exact this,
      fun c ps e=>by obtain ⟨more,q⟩:=u0.tbls c ps e; exact ⟨more,by rw [upd_ne (ne_of_none q hn)]; exact q⟩⟩
  · rw [upd_ne (Nat.ne_of_lt (Nat.lt_of_lt_of_le I.lt hp))]; exact I.free
  · intro x' c e
    obtain ⟨v',q⟩:=I.cell x' c e
    rw [upd_ne (Nat.ne_of_lt (Nat.lt_of_lt_of_le q.lt hp))]; exact I.freeC x' c e
  · intro p' hp'
    obtain ⟨e,n,ne,nf,d⟩:=I1.pin p' hp'
    have e0:=(I.pin p' hp').1
    exact ⟨e,by rw [upd_ne (Nat.ne_of_lt (Nat.lt_of_lt_of_le (Heap.lt_size e0) hp))]; exact n,ne,nf,d⟩
  · intro c o q
    by_cases hcs:c=p
    · subst hcs
      rw [upd_same] at q; cases q
      exact ⟨hz,its,rv,ht⟩
    · rw [upd_ne hcs] at q
      exact (I1.hok c o q).stay (fun _ _ _ r=>r) (fun c' r=>by rw [upd_ne (ne_of_none r hn)]; exact r) fun c' ts r=>by rw [upd_ne (ne_of_none r hn)]; exact r
def enumSt (t:Bool) (e it a:Addr) (i:Nat) (h:Heap):Prop:=(∃ old,IsEnum h e it i old)/\IterAt t h it a i
theorem turn_enum {P:Program} {w:World} {K:PySem.W.Frag} {elts:List Expr} {k:Nat} {pos:Pos} {t:Bool} {e it a:Addr} (hei:e ≠ it) (hae:a ≠ e) (hai:a ≠ it) :
    Turn P w K (.Tuple elts k pos) (Ite K t a) [e,it] e (enumSt t e it a) where
  mem:=by simp
  obj:=fun i h st c hc=>by
    obtain ⟨⟨old,he⟩,h1⟩:=st
    simp at hc
    rcases hc with rfl | rfl
    · exact ⟨_,he,fun v q=>by cases q⟩
    · exact h1.there
  keep:=fun i h h' st kk=>by
    obtain ⟨⟨old,he⟩,h1⟩:=st
    exact ⟨⟨old,kk e (by simp) _ he⟩,h1.at fun o q=>kk it (by simp) o q⟩
  item:=by
    intro X hP hw hK hc i pins s σ H E I hf st hg
    subst hP hw hK
    obtain ⟨xs,x,hq1,hx⟩:=hg
    obtain ⟨⟨old,he⟩,h1⟩:=st
    obtain ⟨its,rv,p,_⟩:=I.seqK hq1
    obtain ⟨ux,hux,rux⟩:=rv.get hx
    have hlt:i < its.toArray.size:=by rw [List.size_toArray]; exact (List.getElem?_eq_some_iff.mp hux).1
    refine wpAny_pyNext_enum_itemD (drawsK (A:=X.A.in1) (I.ok.hd hc) t it a hai its.toArray) he ⟨h1,p⟩ hlt hei (by simp; exact ⟨hei,fun z=>hae z.symm⟩) fun x' h' tk hx' ho hs' hT hsz hk=>⟨_,rfl,?_⟩
    have:x'=ux:=by
      have e1:its[i]?=some x':=by simpa using hx'
      rw [hux] at e1; exact (Option.some.inj e1).symm
    subst this
    refine wpAny_letOwnedTupleGo_enum (s:={ s with heap:=h',toks:=tk + 1 }) ho fun h'' he' hs''=>?_
    have elt:e < s.heap.objs.size:=Heap.lt_size he
    have ilt:it < s.heap.objs.size:=by obtain ⟨o,q,_⟩:=h1.there; exact Heap.lt_size q
    have hfr:H s.heap.objs.size=none:=I.fresh
    have I1:Inv X pins σ H { s with heap:=h'',toks:=tk + 1 }:=I.turnedL (its:=[e,it]) (fun c o hc' q=>(hs''.2 c (fun z=>hc' (by simp [z]))).trans (hk c o (fun z=>hc' (by simp [z])) (fun z=>hc' (by simp [z])) q)) fun c hc'=>hf c hc'
    have tupAt:h''.get? s.heap.objs.size=some { cls:=.type "tuple",data:=.seq #[.int i tk,x'] }:=(hs''.2 _ (Nat.ne_of_gt elt)).trans hT
    have I2:=I.tracks (xs:=[.int i,x]) (its:=[.int i tk,x']) I1 (Nat.le_refl _) hfr (.cons ⟨tk,rfl⟩ (.cons rux .nil)) (by simp only [List.length_cons,List.length_nil]; rw [sizeLine_eq]; decide) ⟨_,tupAt,rfl,0,rfl⟩
    refine ⟨.ref s.heap.objs.size,_,I2,rfl,⟨s.heap.objs.size,x,hfr,rfl,rfl,fun xs' q1=>?_⟩,?_,fun c hc'=>?_⟩
    · rw [I.seqK_inj q1 hq1]; exact hx
    · exact ⟨⟨x',by simpa using he'⟩,hs'.1.at fun o q=>hs''.extBut _ _ (Ne.symm hei) q⟩
    · have:=(hf c hc').1
      have clt:c < s.heap.objs.size:=by simp at hc'; rcases hc' with rfl | rfl <;> assumption
      rw [upd_ne (Nat.ne_of_lt clt)]; exact this
  done:=by
    intro X hP hw hK hc i pins s σ H E I hf st hg
    subst hP hw hK
    obtain ⟨xs,hq1,hend⟩:=hg
    obtain ⟨⟨old,he⟩,h1⟩:=st
    obtain ⟨its,rv,p,_⟩:=I.seqK hq1
    have hl:=rv.length
    have hT:s.TypeIs (.ref e) "enumerate" := ⟨_,he,rfl⟩
    unfold pyNext
    refine wpAny_bind (wpAny_attempt (wpAny_callSpecial?_slot (name:=Str.ofString "__next__") hT F.slot_enumerate_next
      (wpAny_call_entry F.slot_enumerate_next hT F.entry_enumerate_next ?_ (F.args_enumerate_next_1 _))))
    show wpAny _ _ (field (.ref e) 2 >>= _) _ _ _
    refine wpAny_bind (wpAny_field he rfl (x:=.ref it) rfl ?_)
    refine wpAny_bind (nextOf_end (I.ok.hd hc) h1 p (by simp; omega) fun h' x he' hx'=>?_)
    obtain ⟨o,ho,hc'⟩:=hx'
    refine wpAny_bind (wpAny_isInstance (T := "StopIteration") (b:=true) ⟨o,ho,hc'⟩ isSubtype_stop ?_)
    exact wpAny_pure ⟨rfl,I.turnedL (t':=s.toks) (its:=[it]) (fun c o hc2 q=>he' c o (fun z=>hc2 (by simp [z])) q) fun c hc2=>hf c (by simp at hc2; simp [hc2])⟩
  self:=fun _ _ _ _ _ st h=>by
    obtain ⟨⟨old,he⟩,_⟩:=st
    exact wpAny_pyIter_enum he h
section
variable {X:Cx}
def iEnum (K:PySem.W.Frag) (t:Bool) (ta:TA):TI:=fun σ H R=>ta σ H fun vs H1=>∃ a xs,vs=[.ref a]/\SqK K t H1 a xs/\R (Ite K t a) H1
theorem boot_enumerate:bootBuiltins "enumerate" = some (.type "enumerate"):=by decide +kernel
theorem pi_enum (t:Bool) {a:Expr} {ta:TA} {p pos:Pos} {elts:List Expr} {k:Nat} {tp:Pos} (hg:Gl X "enumerate") (hm:X.mg "enumerate" = none) (ha:PA X [a] ta) (hs:starEach [a] X.env=[(false,eval a X.env)]:=by rfl) :
    PI X (.Tuple elts k tp) (.Call (.Name "enumerate" p) [a] [] pos) (iEnum X.K t ta):=by
  intro pins s σ H R I h
  refine Call_ (ld_blt I hg hm boot_enumerate (PyProof.Rows.callWith_type1 (thn (ha pos pins s σ H _ I h) fun us s1 ⟨vs,H1,I1,r1,q1⟩=>?_) hs rfl))
  obtain ⟨a',xs,e,q1,q⟩:=q1
  subst e
  obtain ⟨u,rfl,r⟩:=vals1 r1
  cases r
  obtain ⟨its,rv,p1,_⟩:=I1.seqK q1
  refine call_enumG p1 fun h' z1 z2 z3 z4=>?_
  refine wpAny_pyIter_enum (s:={ s1 with heap:=h' }) z1 ?_
  have lta:a' < s1.heap.objs.size:=by obtain ⟨o,e⟩:=p1.there; exact Heap.lt_size e
  refine ⟨_,[s1.heap.objs.size + 1,s1.heap.objs.size],_,_,H1,rfl,I1.kept (t':=s1.toks) z4,turn_enum (t:=t) (Nat.ne_of_gt (Nat.lt_succ_self _)) (Nat.ne_of_lt (Nat.lt_succ_of_lt lta)) (Nat.ne_of_lt lta),⟨⟨_,z1⟩,z2⟩,fun c hc=>?_,q⟩
  have hc':s1.heap.objs.size<=c:=by simp at hc; unfold Addr at *; omega
  exact I1.fpOk hc' (I1.hok.fresh hc')
end
end L2
namespace L2
open PySem PySem.Spec PyProof.Rows
def TSame (H H':Hp):Prop:=∀ b xs,H b=some (.tup xs)->H' b=some (.tup xs)
theorem same_new {H:Hp} {a:Addr} {o:HO} (h:H a=none):Same H (upd H a o):=fun b u e=>by rw [upd_ne (ne_of_none e h)]; exact e
section
variable {K:PySem.W.Frag} {cap:List (Option Nat)} {te:TE} {σ:St} {H1:Hp} {Q:VK}
abbrev g2 (K:PySem.W.Frag):TG:=gTup K 2 (gCons (gName 0) (gCons (gName 1) gNil))
end
def clsV:V->Option Value
  | .ty n=>some (.type n)
  | .ref a=>some (.ref a)
  | _=>none
theorem clsV_rel {c:V} {cv u:Value} (e:clsV c=some cv) (r:RelV c u):u=cv:=by
  cases c with
  | ty n=>cases e; exact r
  | ref a=>cases e; exact r
  | _=>cases e
section
variable {X:Cx}
theorem call_isinst:CallR X (.builtin "isinstance") (fun xs H Q=>∃ x c cv t b,xs=[x,c]/\clsV c=some cv/\TyOf X.K H x t/\PySem.W.kitOne X.K t cv=some b/\Q (.bl b) H):=by
  intro pins s σ H xs us Q I r h
  obtain ⟨x,c,cv,t,b,rfl,hc,ty,e,q⟩:=h
  obtain ⟨u,w',rfl,r1,r2⟩:=vals2 r
  rw [clsV_rel hc r2]
  exact isinst_ok I r1 ty e fun tk=>⟨.bl b,H,I.tok tk,rfl,q⟩
theorem boot_isinstance:bootBuiltins "isinstance" = some (.builtin "isinstance"):=by decide +kernel
theorem boot_sum:bootBuiltins "sum" = some (.builtin "sum"):=by decide +kernel
theorem boot_all:bootBuiltins "all" = some (.builtin "all"):=by decide +kernel
theorem boot_any:bootBuiltins "any" = some (.builtin "any"):=by decide +kernel
theorem boot_min:bootBuiltins "min" = some (.builtin "min"):=by decide +kernel
theorem boot_tuple:bootBuiltins "tuple" = some (.type "tuple"):=by decide +kernel
theorem boot_list:bootBuiltins "list" = some (.type "list"):=by decide +kernel
theorem boot_int:bootBuiltins "int" = some (.type "int"):=by decide +kernel
theorem boot_bool:bootBuiltins "bool" = some (.type "bool"):=by decide +kernel
end
section
variable {X:Cx} (K:PySem.W.Frag)
end
def Tab (H:Hp) (a:Addr) (tb:List (List Int)):Prop:=∃ rs:List Addr,H a=some (.tup (rs.map V.ref))/\Paired (fun r row=>H r=some (.tup (List.map V.int row))) rs tb
def Wf (n:Nat) (tb:List (List Int)):Prop:=tb.length=n/\∀ row ∈ tb,row.length=n + 1/\∀ x ∈ row,(0:Int)<=x
def Sz (n:Nat) (tb:List (List Int)):Prop:=tb.length=n/\∀ row ∈ tb,row.length=n + 1
end L2
namespace L2
open PySem PySem.Spec PyProof.Rows PySem.W PySem.Builtin.Getset_descriptor
structure XCls (K:Frag) (C:Addr):Prop where
  cls:(clsIn K C).isSome=true
  ga:findIn K (.ref C) "__getattribute__" = some (some (.builtin "BaseException.__getattribute__"))
  gt:findIn K (.ref C) "__getattr__" = some none
  cl:findIn K (.ref C) "__class__" = some (some (.builtin "object.__class__"))
  gs:specialIn K (.builtin "object.__class__") "__get__" = some (some (.builtin "getset_descriptor.__get__"))
  tk:takesIn K (.builtin "object.__class__")=some true
  ob:mroIn K C (.type "object")=some true
  be:mroIn K C (.type "BaseException")=some true
def IsX (x C:Addr) (h:Heap):Prop:=∃ ox,h.get? x=some ox/\ox.cls=.ref C
theorem IsX.type {M:Model} {h:Heap} {x C:Addr} (I:IsX x C h):Looks M h (typeOf (.ref x)) (.ref C):=by
  obtain ⟨ox,h1,h2⟩:=I
  exact h2 ▸ (Looks.ld h1).andThen .now
theorem xc_find {K:Frag} {M:Model} {h:Heap} {x C:Addr} (X:K.In h) (F:XCls K C):Looks M h (Builtin.ObjectAttr.find (.ref x) (.ref C) "__class__") (.bind (.builtin "getset_descriptor.__get__") (.builtin "object.__class__")):=by
  have L1:=looks_findIn (M:=M) X F.cl
  have L2:Looks M h (Builtin.ObjectAttr.getOf (some (.builtin "object.__class__"))) (some (.builtin "getset_descriptor.__get__")):=looks_specialIn X F.gs
  have L3:Looks M h (Builtin.ObjectAttr.dataDescriptor? (some (.builtin "object.__class__")) (some (.builtin "getset_descriptor.__get__"))) (some (.builtin "getset_descriptor.__get__",.builtin "object.__class__")):=(looks_takesIn X F.tk).andThen .now
  exact L1.andThen (L2.andThen (L3.andThen (Looks.tag .now)))
section
variable {prog:Program} {w:World} {A:Around} {E:Value->Shared->Prop} {h:Heap} {g:Array GenState} {d:Drawn} {t:Nat} {os:OsState} {K:Frag} {x C:Addr}
theorem xc_get {tp:Value} {R:Result->Shared->Prop} (X:K.In h) (F:XCls K C) (I:IsX x C h) (hq:R (.ok (.ret (.ref C))) ⟨h,g,d,t,os⟩):codeAny (model prog w) A (.call (.builtin "getset_descriptor.__get__") ⟨[.builtin "object.__class__",.ref x,tp],[]⟩) R ⟨h,g,d,t,os⟩:=by
  have L0:=I.type (M:=model prog w)
  have L1:=looks_mroIn (M:=model prog w) X F.ob
  refine codeAny_call_builtin KF.slot_gs.plain KF.entry_gs (KF.slot_gs.check _ _ _ _ _ _ _ _ KF.type_class (KF.args_gs _ _ _) ?_)
  unfold Builtin.«getset_descriptor.__get__» descrGet
  rw [dga_obj]
  refine wpAny_bind (wpAny_pure ?_)
  unfold descrGetter descrCheckInstance descrNameAndClass isInstance
  simp only [KF.owner_class]
  repeat lk
  refine ⟨Code.quiet_builtin _ (by decide +kernel),codeAny_builtin KF.entry_class ?_⟩
  unfold Builtin.«object.__class__» shownTypeOf
  repeat lk
  exact hq
theorem xc_entry {tk:Tok} {Q:Fin->Shared->Prop} (X:K.In h) (F:XCls K C) (I:IsX x C h) (hq:Q (.done (.ret (.ref C))) ⟨h,g,d,t,os⟩) :
    wpAny (model prog w) A (Builtin.«object.__getattribute__» ⟨[.ref x,.str "__class__" tk],[]⟩) Q E ⟨h,g,d,t,os⟩:=by
  have L0:=I.type (M:=model prog w)
  have L1:=xc_find (M:=model prog w) (x:=x) X F
  unfold Builtin.«object.__getattribute__»
  refine wpAny_bind (wpAny_pure ?_)
  refine wpAny_bind (wpAny_pure ?_)
  refine wpAny_bind (L0.at (wpAny_bind (L1.at ?_)))
  show wpAny _ _ (Builtin.ObjectAttr.bindTo (.builtin "getset_descriptor.__get__") (.builtin "object.__class__") (.ref x) (.ref C)) _ _ _
  unfold Builtin.ObjectAttr.bindTo
  refine wpAny_bind (wpAny_holding (wpAny_call (xc_get X F I ?_)))
  exact wpAny_pure hq
theorem xc_check {M:Model} {nameV:Value} {Q:Unit->Shared->Prop} (X:K.In h) (F:XCls K C) (I:IsX x C h) (hq:Q () ⟨h,g,d,t,os⟩):wpAny M A (checkBuiltinCall "BaseException.__getattribute__" ⟨[.ref x,nameV],[]⟩) Q E ⟨h,g,d,t,os⟩:=by
  have hk:builtinKind "BaseException.__getattribute__" = some .slot:=by decide +kernel
  have hsplit:splitId "BaseException.__getattribute__" = some ("BaseException", "__getattribute__"):=by decide +kernel
  have LI:Looks M h (isInstance (.ref x) (.type "BaseException")) true:=(I.type).andThen (looks_mroIn X F.be)
  have ha:=PySem.F.args_bexc_ga (.ref x) nameV
  simp only [checkBuiltinCall,hk,hsplit]
  refine wpAny_bind (LI.at ?_)
  simp only [Bool.not_true,Bool.false_eq_true,if_false]
  exact wpAny_of_eq ha hq
theorem xc_call {tk:Tok} {R:Result->Shared->Prop} (X:K.In h) (F:XCls K C) (I:IsX x C h) (hq:R (.ok (.ret (.ref C))) ⟨h,g,d,t,os⟩) :
    codeAny (model prog w) A (.call (.builtin "BaseException.__getattribute__") ⟨[.ref x,.str "__class__" tk],[]⟩) R ⟨h,g,d,t,os⟩:=
  codeAny_call_builtin PySem.F.attr_ValueError.ga.plain PySem.F.entry_bexc_ga (xc_check X F I (xc_entry X F I hq))
theorem xc_by {tk:Tok} {Q:Value->Shared->Prop} (X:K.In h) (F:XCls K C) (I:IsX x C h) (hq:Q (.ref C) ⟨h,g,d,t,os⟩):wpAny (model prog w) A (getAttrBy (.ref x) (.str "__class__" tk) false) Q E ⟨h,g,d,t,os⟩:=by
  have L0:=I.type (M:=model prog w)
  have L1:=looks_findIn (M:=model prog w) X F.ga
  have L2:=looks_findIn (M:=model prog w) X F.gt
  have hx2:(Value.builtin "BaseException.__getattribute__" == Value.builtin "object.__getattribute__")=false:=by decide +kernel
  have hx1:(onTheHeap (Value.ref C) && Value.builtin "BaseException.__getattribute__" == Value.builtin "object.__getattribute__")=false:=by rw [hx2]; rfl
  have f3:=PySem.F.attr_ValueError.ga.bind (.ref x)
  unfold getAttrBy
  refine wpAny_holding (wpAny_bind (L0.at (wpAny_bind (L1.at ?_))))
  repeat (any_goals (first | assumption | with_reducible refine L2.at ?_ | wp_step))
  refine xc_call X F I ?_
  repeat (any_goals (first | assumption | wp_step))
theorem xc_attr {Q:Option Value->Shared->Prop} (X:K.In h) (F:XCls K C) (I:IsX x C h) (hq:Q (some (.ref C)) ⟨h,g,d,t + 1,os⟩):wpAny (model prog w) A (getAttr? (.ref x) "__class__") Q E ⟨h,g,d,t,os⟩:=by
  unfold getAttr? getAttrBy?
  repeat (any_goals (first | assumption | with_reducible apply xc_by X F I | wp_step))
end
theorem kitx_exc {K:Frag} {x C:Addr} (F:XCls K C):KitX K (.ref x) (.ref C) (IsX x C) where
  ty:=fun _ _ _ I=>I.type
  it:=fun _ _ X _=>by
    obtain ⟨cdD,hcD⟩:=Option.isSome_iff_exists.mp F.cls
    unfold clsIn at hcD
    split at hcD
    · rename_i c' d' cd' sl' ho
      intro A' Q' E' s' k q
      unfold isType loadHead
      exact wpAny_bind (wpAny_loadPart (k _ _ (X _ _ ho)) (wpAny_pure q))
    · cases hcD
  ne:=fun h tp dd its n sl X htp=>by
    obtain ⟨cdD,hcD⟩:=Option.isSome_iff_exists.mp F.cls
    refine Bool.eq_false_iff.mpr fun q=>?_
    have e:C=tp:=Value.ref.inj (beq_iff_eq.mp q)
    subst e
    unfold clsIn at hcD
    split at hcD
    · rename_i c' d' cd' sl' ho
      have z:=(X _ _ ho).symm.trans htp
      cases z
    · cases hcD
  ca:=fun {prog w A E Q s} X I k=>by
    obtain ⟨h,g,d,t,os⟩:=s
    exact xc_attr X F I k
end L2
namespace L2
open PySem PySem.Spec PyProof.Rows
theorem ObjOk.there {P:Program} {w:World} {H:Hp} {h:Heap} {a:Addr} {o:HO} (x:ObjOk P w H h a o):∃ u,h.get? a=some u:=by
  cases o with
  | lst xs=>obtain ⟨_,_,_,_,e⟩:=x; exact ⟨_,e⟩
  | tup xs=>obtain ⟨_,_,_,o,e,_⟩:=x; exact ⟨o,e⟩
  | dK kvs=>obtain ⟨_,_,_,_,o,_,_,e,_⟩:=x; exact ⟨o,e⟩
  | dT kvs=>obtain ⟨_,_,_,_,o,_,_,e,_⟩:=x; exact ⟨o,e⟩
  | set S n=>obtain ⟨o,_,_,_,e,_⟩:=x; exact ⟨o,e⟩
  | ins C dx fs=>obtain ⟨_,_,_,e,_⟩:=x; exact ⟨_,e⟩
  | own y=>exact x
  | xd fs=>obtain ⟨_,⟨o,_,_,e,_⟩,_⟩:=x; exact ⟨o,e⟩
  | rng lo hi=>obtain ⟨_,_,_,e⟩:=x; exact ⟨_,e⟩
  | frz ob u=>obtain ⟨e,_⟩:=x; exact ⟨_,e⟩
  | tbl ps=>exact ⟨_,x⟩
  | met f y=>exact ⟨_,x⟩
  | ext φ=>exact x.2.1
theorem HOk.none_of {P:Program} {w:World} {H:Hp} {h:Heap} {a:Addr} (x:HOk P w H h) (e:h.get? a=none):H a=none:=by
  cases q:H a with
  | none=>rfl
  | some o=>
    obtain ⟨u,z⟩:=(x a o q).there
    rw [e] at z
    cases z
structure Fly (P:Program) (w:World) (outer:List Env) (H H':Hp) (s s':Shared) (a:Addr) (cls a0:Value) (B:Heap):Prop where
  os:s'.os=s.os
  bare:AllBare s'.gens
  fl:Heap.FlyingW B outer a cls a0 s'.heap
  hokB:HOk P w H' B
  keep:∀ b o,s.heap.get? b=some o->H b=none->b ∉ frs outer->B.get? b=some o
  there:∀ b o,s.heap.get? b=some o->b ∉ frs outer->∃ o',B.get? b=some o'
  slot:∀ b o,s.heap.get? b=some o->b ∈ frs outer->∃ sl,s'.heap.get? b=some { o with slots:=sl }
  free:∀ b o,s.heap.get? b=some o->H b=none->H' b=none
  tups:∀ b xs,H b=some (.tup xs)->H' b=some (.tup xs)
  frzs:∀ b o u,H b=some (.frz o u)->H' b=some (.frz o u)
  tbls:∀ b ps,H b=some (.tbl ps)->∃ more,H' b=some (.tbl (ps ++ more))
section
variable {P:Program} {w:World} {K:PySem.W.Frag} {mg:Str->Option Value} {base:Heap} {N:List Str} {qual:Str} {scope:Scope} {f:Addr} {cd:Value} {A:Around} {outer:List Env} {s:Shared} {H:Hp} {E:XK}
end
abbrev bmVE:List Value:=[.type "ValueError",.type "Exception",.type "BaseException",.type "object"]
theorem own_obj {K:PySem.W.Frag} {h:Heap} {C:Addr} {bmB:List Value} {newId:String} {x:Str} {mg:Str->Option Value} (X:K.In h) (m:mg x=some (.ref C)) (q:PySem.W.excIn K C bmB newId=true):OwnCls x C bmB newId mg h:=by
  refine ⟨m,?_⟩
  unfold PySem.W.excIn at q
  split at q
  · rename_i dd cd sl ho
    split at q
    · rename_i C' bm k0 k1 k2 k3 n k5 hm hs
      simp only [Bool.and_eq_true,beq_iff_eq,Bool.not_eq_true'] at q
      obtain ⟨⟨⟨⟨⟨rfl,rfl⟩,hdel⟩,ht⟩,hok⟩,hni⟩:=q
      obtain ⟨nm,bs,mro,ns,qn,hd,sn,sub,ab,col,del⟩:=cd
      dsimp only at hm hdel hok hni
      subst hm hdel
      have hsl:sl=#[k0,k1,k2,k3,some (.builtin n),k5]:=by
        obtain ⟨l⟩:=sl
        simp only at hs
        rw [hs]
      subst hsl
      exact ⟨bm,ns,nm,qn,bs,hd,sn,sub,ab,col,dd,k0,k1,k2,k3,k5,_,X _ _ ho,.of_isNs (PySem.W.isNs_of_in X hok),PySem.W.nsMap_none_of_in X hok hni,PySem.W.tail_of_in X ht⟩
    · cases q
  · cases q
section
variable {X:Cx}
def tRaise (C:Addr) (E:XK) (t:TA):TS:=fun _ σ H=>t σ H fun vs H1=>vs.length<=sizeLine/\E (.ref C) none H1
end
end L2
namespace L2
open PySem PySem.Spec PyProof.Rows
def suiteCx (X:Cx) (a:Addr):Cx:={ X with A:=X.A.mark (some (.ref a)),calm:=false,xe:=fun _ _=>False }
section
variable {X:Cx} {pins:List (Addr × Obj)} {σ:St} {H H':Hp} {s s':Shared} {a C:Addr}
theorem Inv.suite (I:Inv X pins σ H s) (a:Addr):Inv (suiteCx X a) pins σ H s:=
  ⟨⟨I.ok.mod,I.ok.kind,I.ok.glob,I.ok.blt,I.ok.above,I.ok.inj,I.ok.has,I.ok.cab,fun h=>(by cases h),I.ok.frames,I.ok.stk,I.ok.exf,I.ok.bs,I.ok.bsz,I.ok.noex,I.ok.exfs,I.ok.funs,I.ok.frf⟩,I.os,I.bare,I.base,I.loc,I.cell,I.free,I.freeC,I.pin,I.hok,I.len⟩
theorem Inv.unsuite (ok:X.Ok) (I:Inv (suiteCx X a) pins σ H s):Inv X pins σ H s:=⟨ok,I.os,I.bare,I.base,I.loc,I.cell,I.free,I.freeC,I.pin,I.hok,I.len⟩
theorem Fly.inv {cls a0:Value} {B h5:Heap} (I:Inv X pins σ H s) (F:Fly X.prog X.w X.stack H H' s s' a cls a0 B) (kB:B.StaysIn h5) (sm:s'.heap.UpToSlots h5):Inv X pins σ H' { s' with heap:=h5 }:=by
  have sl:∀ b o,s.heap.get? b=some o->b ∈ frs X.stack->∃ sl,h5.get? b=some { o with slots:=sl }:=fun b o q hb=>by
    obtain ⟨sl,z⟩:=F.slot b o q hb
    obtain ⟨_,o',ho',hnf⟩:=I.stack.mem hb
    rw [q] at ho'
    cases ho'
    obtain ⟨sl',z'⟩:=sm b _ z hnf
    exact ⟨sl',z'⟩
  refine I.call' (s':={ s' with heap:=h5 }) (ch:=[]) F.os ⟨fun b o q n hb _=>kB _ _ (F.keep b o q n hb),fun b o q n hb _=>sl b o q hb,fun b o q n _=>F.free b o q n,fun b o q _=>?_,F.tups,F.frzs,F.tbls⟩ (F.hokB.kept kB) F.bare fun b z=>absurd z (by simp)
  by_cases hb:b ∈ frs X.stack
  · obtain ⟨sl,z⟩:=sl b o q hb
    exact ⟨_,z⟩
  · obtain ⟨o',z⟩:=F.there b o q hb
    exact ⟨o',kB _ _ z⟩
theorem Fly.new {cls a0:Value} {B:Heap} (F:Fly X.prog X.w X.stack H H' s s' a cls a0 B):s.heap.get? a=none/\H' a=none:=by
  have hB:B.get? a=none:=F.fl.2.1
  refine ⟨?_,F.hokB.none_of hB⟩
  cases q:s.heap.get? a with
  | none=>rfl
  | some o=>
    by_cases hb:a ∈ frs X.stack
    · obtain ⟨_,o',ho',hnf⟩:=F.fl.2.2.1.mem hb
      obtain ⟨oe,vs,he,_,hd,_⟩:=F.fl.first
      rw [ho'] at he
      cases he
      exact absurd hd (hnf vs)
    · obtain ⟨o',z⟩:=F.there a o q hb
      rw [hB] at z
      cases z
theorem Inv.track {s1:Shared} {φ:Heap->Prop} (I0:Inv X pins σ H s) (hex:∀ b,b ∉ X.ex) (h0:s.heap.get? a=none) (I:Inv X pins σ H' s1) (hn:H' a=none) (o:ObjOk X.prog X.w (upd H' a (.ext φ)) s1.heap a (.ext φ)):Inv X pins σ (upd H' a (.ext φ)) s1:=by
  have ne0:∀ b u,s.heap.get? b=some u->b ≠ a:=fun b u e z=>by rw [z,h0] at e; cases e
  have nes:∀ b u,X.s₀.heap.get? b=some u->b ≠ a:=fun b u e=>by
    obtain ⟨u',e'⟩:=I0.base.there b u e (hex b)
    exact ne0 b u' e'
  refine ⟨I.ok,I.os,I.bare,?_,I.loc,I.cell,?_,?_,?_,?_,I.len⟩
  · have u0:=I.base
    exact ⟨u0.keep,u0.slot,fun c o e n hx=>by rw [upd_ne (nes c o e)]; exact u0.free c o e n hx,u0.there,
      fun c ts e=>by have:=u0.tups c ts e; rw [upd_ne (ne_of_none this hn)]; exact this,
      fun c o ts e=>by have:=u0.frzs c o ts e; rw [upd_ne (ne_of_none this hn)]; exact this,
      fun c ps e=>by obtain ⟨more,q⟩:=u0.tbls c ps e; exact ⟨more,by rw [upd_ne (ne_of_none q hn)]; exact q⟩⟩
  · obtain ⟨m,⟨o,_,_,e,_⟩,_⟩:=I0.loc
    rw [upd_ne (ne0 _ _ e)]; exact I.free
  · intro x c e
    obtain ⟨v,o,z,_⟩:=I0.cell x c e
    rw [upd_ne (ne0 _ _ z)]; exact I.freeC x c e
  · intro p hp
    obtain ⟨e,n,ne,nf,d⟩:=I.pin p hp
    exact ⟨e,by rw [upd_ne (ne0 _ _ (I0.pin p hp).1)]; exact n,ne,nf,d⟩
  · intro c u q
    by_cases hc:c=a
    · subst hc
      rw [upd_same] at q; cases q
      exact o
    · rw [upd_ne hc] at q
      exact (I.hok c u q).stay (fun _ _ _ r=>r) (fun c' r=>by rw [upd_ne (ne_of_none r hn)]; exact r) fun c' ts r=>by rw [upd_ne (ne_of_none r hn)]; exact r
theorem Inv.forget {i:Nat} {n:Str} {m:Str->Option Value} {h':Heap} {v:Option Value} {tk:Nat} (I:Inv X pins σ H s) (hN:X.N.Nodup) (hi:X.N[i]?=some n) (hl:∀ (i:Nat) (x:Str) (v:V),X.N[i]?=some x->σ[i]?=some (some v)->Vis X.env.scope x->∃ u,RelV v u/\Look X.env s.heap m x u)
    (hn':h'.Ns X.env.locals (fun x=>if x=n then v else m x)) (hs:Heap.SameBut X.env.locals s.heap h'):Inv X pins (σ.set i none) H { s with heap:=h',toks:=tk }:=by
  have cne:=I.cne
  have tracked:HOk X.prog X.w H h':=I.hok.same I.free hs
  have neL:∀ b o,X.s₀.heap.get? b=some o->b ≠ X.env.locals:=fun b o e=>Nat.ne_of_lt (Nat.lt_of_lt_of_le (Heap.lt_size e) I.ok.above)
  refine ⟨I.ok,I.os,I.bare,⟨fun b o e n hb hx=>(hs.2 b (neL b o e)).trans (I.base.keep b o e n hb hx),fun b o e n hb hx=>?_,I.base.free,fun b o e hx=>?_,I.base.tups,I.base.frzs,I.base.tbls⟩,⟨_,hn',fun j y v' e1 e2 e3=>?_⟩,fun y c e=>?_,I.free,I.freeC,fun p hp=>?_,tracked,by simpa using I.len⟩
  · obtain ⟨sl,z⟩:=I.base.slot b o e n hb hx
    exact ⟨sl,(hs.2 b (neL b o e)).trans z⟩
  · obtain ⟨o',z⟩:=I.base.there b o e hx
    exact ⟨o',(hs.2 b (neL b o e)).trans z⟩
  · by_cases hj:j=i
    · subst hj
      rw [hi] at e1; cases e1
      have:j < σ.length:=by have:=(List.getElem?_eq_some_iff.mp e2).1; simpa using this
      rw [List.getElem?_set_self this] at e2
      cases e2
    · rw [List.getElem?_set_ne (Ne.symm hj)] at e2
      obtain ⟨u,r,q⟩:=hl j y v' e1 e2 e3
      refine ⟨u,r,?_⟩
      rcases q with ⟨k,e⟩ | ⟨k,c,e,z⟩
      · refine .inl ⟨k,?_⟩
        have:y ≠ n:=fun e=>hj (nodup_ix hN e1 (e ▸ hi))
        simp [this,e]
      · exact .inr ⟨k,c,e,z.sameBut hs (cne y c e)⟩
  · obtain ⟨w',z⟩:=I.cell y c e
    exact ⟨w',z.sameBut hs (cne y c e)⟩
  · obtain ⟨e,n,ne,nf,d⟩:=I.pin p hp
    exact ⟨(hs.2 p.1 ne).trans e,n,ne,nf,d⟩
end
section
variable {X:Cx}
end
section
variable {X:Cx}
end
end L2
namespace L2
open PySem PySem.Spec PyProof.Rows
theorem tuple_mul_same (l:Addr) (items:Array Value) (n:Nat) (dd:Option Addr) (sl:Array (Option Value)) (t:Tok) :
    Meets (Builtin.«tuple.__mul__» ⟨[.ref l,.int 1 t],[]⟩) (fun _ R s=>s.heap.get? l=some { cls:=.type "tuple",dict:=dd,data:=.seq items n,slots:=sl }/\R (.ok (.ret (.ref l))) s):=
  .of_wp fun prog w A R s h=>by
    obtain ⟨hp,g,d,tk,os⟩:=s; obtain ⟨hl,h⟩:=h
    wp_walk using wpAny_loadPart' hl
    exact ⟨_,rfl,h⟩
theorem tuple_mul_many (l:Addr) (items:Array Value) (n:Nat) (dd:Option Addr) (sl:Array (Option Value)) (x:Int) (t:Tok) (h1:¬ (decide (x < -(2 ^ 63)) || decide (x>=2 ^ 63))=true) (h2:¬ (items.isEmpty || x == 1)=true) (h3:¬ (decide (x<=0) || items.isEmpty)=true) (h4:¬ (items.size:Int) * x > (2 ^ 63 - 1) / 8) (h5:¬ Builtin.Tuple.tupleTooMany ((items.size:Int) * x)=true)
    (h6:((List.replicate x.toNat items).foldl (fun x1 x2=>x1 ++ x2) #[]).size<=sizeLine) :
    Meets (Builtin.«tuple.__mul__» ⟨[.ref l,.int x t],[]⟩) (fun _ R s=>s.heap.get? l=some { cls:=.type "tuple",dict:=dd,data:=.seq items n,slots:=sl } /\
      R (.ok (.ret (Value.ref s.heap.objs.size))) { s with heap:=s.heap.push { cls:=Value.type "tuple",data:=Data.seq ((List.replicate x.toNat items).foldl (fun x1 x2=>x1 ++ x2) #[]) } }):=
  .of_wp fun prog w A R s h=>by
    obtain ⟨hp,g,d,tk,os⟩:=s; obtain ⟨hl,h⟩:=h
    wp_walk using wpAny_loadPart' hl
    refine wpAny_ite_false (decide_eq_false h1) ?_
    wp_walk using wpAny_loadPart' hl
    refine wpAny_ite_false (decide_eq_false h4) ?_
    wp_walk using wpAny_loadPart' hl
    all_goals first | exact ⟨_,rfl,h⟩ | (refine wpAny_ite_false (decide_eq_false h5) ?_; wp_walk) | skip
    all_goals first | exact ⟨_,rfl,h⟩ | (refine wpAny_ite_false (decide_eq_false (Nat.not_lt.mpr h6)) ?_; wp_walk; exact ⟨_,rfl,h⟩)
theorem int_rmul_tuple (a:Int) (t:Tok) (l:Addr) (items:Array Value) (n:Nat) (dd:Option Addr) (sl:Array (Option Value)) :
    Meets (Builtin.«int.__rmul__» ⟨[.int a t,.ref l],[]⟩) (fun _ R s=>s.heap.get? l=some { cls:=.type "tuple",dict:=dd,data:=.seq items n,slots:=sl }/\R (.ok (.ret Value.notImplemented)) s):=
  .of_wp fun prog w A R s h=>by obtain ⟨hp,g,d,tk,os⟩:=s; obtain ⟨hl,h⟩:=h; wp_walk using wpAny_loadPart' hl; exact ⟨_,rfl,h⟩
theorem noFill_tuple_mul:fillsNumberSlot (.type "tuple") "mul" = pure false:=
  PySem.fillsNumberSlot_seq (id := "tuple.__mul__") (r:=some (.builtin "tuple.__rmul__")) F.slot_tuple_mul.lookup (by decide +kernel) F.slot_tuple_rmul.lookup (by decide +kernel)
theorem repeat_tuple:seqRepeat? (.type "tuple")=pure (some (.builtin "tuple.__mul__")):=by
  unfold seqRepeat?
  rw [PySem.seqSlot_of (T := "tuple") (name := "__mul__") (id := "tuple.__mul__") F.slot_tuple_mul.lookup (by decide +kernel),PySem.seqSlot_of (T := "tuple") (name := "__rmul__") (id := "tuple.__rmul__") F.slot_tuple_rmul.lookup (by decide +kernel)]
  rfl
section
variable {X:Cx}
def rRepT (K:PySem.W.Frag):R2:=fun x y H Q=>∃ a k xs,x=.ref a/\y=.int k/\SqT K H a xs/\xs ≠ []/\1<=k/\xs.length * k.toNat<=4096 /\
  (k=1->Q (.ref a) H)/\(k ≠ 1->∀ p,H p=none->Q (.ref p) (upd H p (.tup (List.replicate k.toNat xs).flatten)))
theorem op_repT:OpR X (binaryOp .Mult) (rRepT X.K):=by
  intro pins s σ H x y v u Q I rx ry h
  obtain ⟨a,k,xs,rfl,rfl,ha,hne,hk,hz,q1,q2⟩:=h
  cases rx
  obtain ⟨t,rfl⟩:=ry
  obtain ⟨its,r,p1,hs⟩:=I.tuple ha
  obtain ⟨⟨cls,dd,data,sl⟩,ho,hc,n,hd⟩:=id p1
  simp only at hc hd
  subst hc hd
  have hl:its.length=xs.length:=r.length.symm
  have hpos:0 < its.length:=by rw [hl]; exact List.length_pos_iff.mpr hne
  have hkz:k.toNat<=4096:=by
    have:1 * k.toNat<=xs.length * k.toNat:=Nat.mul_le_mul_right _ (by omega)
    omega
  refine wpAny_binaryOp_repeat_ref (T := "tuple") (U := "int") (by decide) ⟨_,ho,rfl⟩ (fun s'=>typeIs_int s' k t) noFill_tuple_mul F.fills_int_mul F.slot_int_rmul repeat_tuple F.slot_int_index.lookup
    (call_meets F.slot_int_rmul (typeIs_int s k t) F.entry_int_rmul (F.args_int_rmul_2 _ _) (int_rmul_tuple k t a its.toArray n dd sl)
      ⟨ho,rfl,⟨_,ho,rfl⟩,?_⟩)
  by_cases h1:k=1
  · subst h1
    exact call_meets F.slot_tuple_mul ⟨_,ho,rfl⟩ F.entry_tuple_mul (F.args_tuple_mul_2 _ _) (tuple_mul_same a its.toArray n dd sl t) ⟨ho,⟨.ref a,H,I,rfl,q1 rfl⟩⟩
  · have f0:List.foldl (fun x1 x2=>x1 ++ x2) #[] (List.replicate k.toNat its.toArray)=(List.replicate k.toNat its).flatten.toArray:=by
      have:=foldl_rep its k.toNat []
      rw [List.nil_append] at this
      exact this
    have hlen:(its.toArray.size:Int) * k=((its.length * k.toNat:Nat):Int):=by
      rw [List.size_toArray,Int.natCast_mul,Int.toNat_of_nonneg (by omega)]
    have hfl:(List.replicate k.toNat its).flatten.length<=4096:=by rw [len_rep,hl,Nat.mul_comm]; exact hz
    have hb:its.length * k.toNat<=4096:=by rw [hl]; exact hz
    refine call_meets F.slot_tuple_mul ⟨_,ho,rfl⟩ F.entry_tuple_mul (F.args_tuple_mul_2 _ _) (tuple_mul_many a its.toArray n dd sl k t ?_ ?_ ?_ ?_ ?_ ?_) ⟨ho,?_⟩
    · rw [decide_eq_false (by omega),decide_eq_false (by omega)]; exact Bool.false_ne_true
    · intro z
      rcases Bool.or_eq_true_iff.mp z with z | z
      · rw [List.isEmpty_toArray,List.isEmpty_iff] at z; rw [z] at hpos; simp at hpos
      · exact h1 (eq_of_beq z)
    · intro z
      rcases Bool.or_eq_true_iff.mp z with z | z
      · have:=of_decide_eq_true z; omega
      · rw [List.isEmpty_toArray,List.isEmpty_iff] at z; rw [z] at hpos; simp at hpos
    · rw [hlen]; omega
    · rw [hlen]
      have:(4096:Int)<=sizeLine:=by decide
      show ¬ decide (((its.length * k.toNat:Nat):Int) > (sizeLine:Int))=true
      rw [decide_eq_false (by omega)]; exact Bool.false_ne_true
    · rw [f0,List.size_toArray]; exact Nat.le_trans hfl (by decide)
    · rw [f0]
      refine ⟨.ref s.heap.objs.size,_,I.laid (t':=s.toks) (o:=.tup (List.replicate k.toNat xs).flatten) (fun b ob q=>Heap.get?_push_of_some _ q) (Nat.le_refl _) ?_,rfl,q2 h1 _ (I.hok.fresh (Nat.le_refl _))⟩
      exact ⟨by rw [len_rep,Nat.mul_comm]; exact Nat.le_trans hz (by decide),_,r.rep k.toNat,IsTup.new _ _⟩
end
section
variable {X:Cx} {pins:List (Addr × Obj)} {s:Shared} {σ:St} {H:Hp}
open PySem.SeqAt
end
end L2
namespace L2
open PySem PySem.Spec PyProof.Rows
end L2
namespace L2
open PySem PySem.Spec PyProof.Rows
def SameBut (a:Addr) (H H':Hp):Prop:=∀ b o,H b=some o->H' b=some o\/(b=a/\∃ xs ys,o=.lst xs/\H' b=some (.lst ys))
section
variable {K:PySem.W.Frag} {cap:List (Option Nat)} {te:TE} {σ:St} {H1:Hp} {Q:VK}
end
section
variable {X:Cx} {pos:Pos}
end
end L2
namespace L2
open PySem PySem.Spec PyProof.Rows
theorem cellsFrom_look:∀ (names:List (Str × NameKind)) (h:Heap) (acc:List (Str × Addr)) (x:Str) (c:Addr),(cellsFrom h.objs.size names acc).lookup x=some c ->
    acc.lookup x=some c\/((x,NameKind.cell) ∈ names/\h.objs.size<=c/\(pushCells h names).IsCell c none)
  | [],_,_,_,_,e=>.inl e
  | (name,kind) :: r,h,acc,x,c,e=>by
    unfold cellsFrom at e
    unfold pushCells
    by_cases hk:(kind == NameKind.cell)=true
    · rw [if_pos hk] at e ⊢
      have hk':kind=.cell:=by simpa using hk
      have ih:=cellsFrom_look r (h.push { cls:=.type "cell",data:=.cell none }) ((name,h.objs.size) :: acc) x c (by rw [Heap.size_push]; exact e)
      rw [Heap.size_push] at ih
      rcases ih with z | ⟨z1,z2,z3⟩
      · rw [List.lookup_cons] at z
        cases hb:x == name with
        | true=>
          rw [hb] at z; cases z
          exact .inr ⟨by rw [beq_iff_eq.mp hb,hk']; exact List.mem_cons_self,Nat.le_refl _,⟨_,pushCells_keeps _ _ _ _ (Heap.get?_push_size _ rfl),rfl⟩⟩
        | false=>rw [hb] at z; exact .inl z
      · exact .inr ⟨List.mem_cons_of_mem _ z1,by omega,z3⟩
    · rw [if_neg hk] at e ⊢
      rcases cellsFrom_look r h acc x c e with z | ⟨z1,z2,z3⟩
      · exact .inl z
      · exact .inr ⟨List.mem_cons_of_mem _ z1,z2,z3⟩
theorem cellsFrom_old {x:Str}:∀ (names:List (Str × NameKind)) (n:Nat) (acc:List (Str × Addr)),(x,NameKind.cell) ∉ names->(cellsFrom n names acc).lookup x=acc.lookup x
  | [],_,_,_=>rfl
  | (name,kind) :: r,n,acc,h=>by
    unfold cellsFrom
    have hr:(x,NameKind.cell) ∉ r:=fun z=>h (List.mem_cons_of_mem _ z)
    by_cases hk:(kind == NameKind.cell)=true
    · rw [if_pos hk,cellsFrom_old r _ _ hr,List.lookup_cons]
      cases hb:x == name with
      | true=>exact absurd (by rw [beq_iff_eq.mp hb,show kind=.cell by simpa using hk]; exact List.mem_cons_self) h
      | false=>rfl
    · rw [if_neg hk,cellsFrom_old r _ _ hr]
theorem cellsFrom_new {x:Str} {c:Addr}:∀ (names:List (Str × NameKind)) (n:Nat) (acc:List (Str × Addr)),(x,NameKind.cell) ∈ names->(cellsFrom n names acc).lookup x=some c->n<=c
  | [],_,_,h,_=>by cases h
  | (name,kind) :: r,n,acc,h,e=>by
    unfold cellsFrom at e
    by_cases hr:(x,NameKind.cell) ∈ r
    · by_cases hk:(kind == NameKind.cell)=true
      · rw [if_pos hk] at e
        exact Nat.le_of_succ_le (cellsFrom_new r _ _ hr e)
      · rw [if_neg hk] at e
        exact cellsFrom_new r _ _ hr e
    · rcases List.mem_cons.mp h with q | q
      · cases q
        rw [if_pos (by decide),cellsFrom_old r _ _ hr,List.lookup_cons] at e
        simp at e
        exact Nat.le_of_eq e
      · exact absurd q hr
theorem cellsFrom_inj:∀ (names:List (Str × NameKind)) (n:Nat) (acc:List (Str × Addr)),(∀ x c,acc.lookup x=some c->c < n)->(∀ x y c,acc.lookup x=some c->acc.lookup y=some c->x=y) ->
    ∀ x y c,(cellsFrom n names acc).lookup x=some c->(cellsFrom n names acc).lookup y=some c->x=y
  | [],_,_,_,h=>h
  | (name,kind) :: r,n,acc,h1,h2=>by
    unfold cellsFrom
    by_cases hk:(kind == NameKind.cell)=true
    · rw [if_pos hk]
      refine cellsFrom_inj r (n + 1) _ (fun x c e=>?_) (fun x y c e e'=>?_)
      · rw [List.lookup_cons] at e
        cases hb:x == name with
        | true=>rw [hb] at e; cases e; exact Nat.lt_succ_self _
        | false=>rw [hb] at e; exact Nat.lt_succ_of_lt (h1 x c e)
      · rw [List.lookup_cons] at e e'
        cases hb:x == name with
        | true=>
          rw [hb] at e; cases e
          cases hb':y == name with
          | true=>rw [beq_iff_eq.mp hb,beq_iff_eq.mp hb']
          | false=>rw [hb'] at e'; exact absurd (h1 y _ e') (Nat.lt_irrefl _)
        | false=>
          rw [hb] at e
          cases hb':y == name with
          | true=>rw [hb'] at e'; cases e'; exact absurd (h1 x _ e) (Nat.lt_irrefl _)
          | false=>rw [hb'] at e'; exact h2 x y c e e'
    · rw [if_neg hk]
      exact cellsFrom_inj r n acc h1 h2
theorem wpAny_newEnvC {M:Model} {A:Around} {E:Value->Shared->Prop} {s:Shared} {scope:Scope} {globals:Addr} {cl:List (Str × Addr)} {qual:Str} {func:Option Addr} {code:Value} {env:Env} {builtins:Addr} {Q:Env->Shared->Prop}
    (hQ:Q (newEnv scope s.heap.objs.size globals (cellsFrom (s.heap.objs.size + 1) scope.names cl) qual func code (some env) builtins) { s with heap:=pushCells (s.heap.push { cls:=.type "dict",data:=.dict #[] }) scope.names }) :
    wpAny M A (newFunctionEnv scope globals cl [] qual func code (some env) builtins) Q E s:=by
  simp only [newFunctionEnv,Option.isSome_some,if_true]
  refine wpAny_bind (wpAny_alloc ?_)
  refine wpAny_bind (wpAny_layCells _ (fun name kind cells=>by cases hkc:kind == NameKind.cell <;> simp [hkc]) _ _ _ _ ?_)
  rw [show ({ s with heap:=s.heap.push { cls:=.type "dict",data:=.dict #[] } }:Shared).heap.objs.size=s.heap.objs.size + 1 from Heap.size_push ..]
  refine wpAny_bind ?_
  rw [List.forIn_nil]
  exact wpAny_pure (wpAny_pure hQ)
def compOkC (N N':List Str) (sc scE:Scope) (cap:List (Option Nat)):Bool:=
  sc.kind == .function && sc.names.all (fun x=>x.2 != .cell || sc.names.lookup x.1 == some .cell) && sc.names.all (fun x=>x.2 != .local || sc.names.lookup x.1 == some .local) &&
  sc.names.all (fun x=>x.2 != .free || scE.names.lookup x.1 == some .cell || scE.names.lookup x.1 == some .free) && cap.length == N'.length &&
  (List.range cap.length).all (fun i=>match cap[i]? with
    | some (some j)=>(match N'[i]?,N[j]? with | some a,some b=>a == b && sc.names.lookup a == some .free | _,_=>false)
    | _=>true)
structure CompOkC (N N':List Str) (sc scE:Scope) (cap:List (Option Nat)):Prop where
  kind:sc.kind=.function
  cel:∀ x ∈ sc.names,x.2=.cell->sc.names.lookup x.1=some .cell
  loc:∀ x ∈ sc.names,x.2=.local->sc.names.lookup x.1=some .local
  fre:∀ x ∈ sc.names,x.2=.free->scE.names.lookup x.1=some .cell\/scE.names.lookup x.1=some .free
  len:cap.length=N'.length
  at_:∀ (i j:Nat),cap[i]?=some (some j)->∃ x,N'[i]?=some x/\N[j]?=some x/\sc.names.lookup x=some .free
theorem compOkC.of {N N':List Str} {sc scE:Scope} {cap:List (Option Nat)} (h:compOkC N N' sc scE cap=true):CompOkC N N' sc scE cap:=by
  unfold compOkC at h
  simp only [Bool.and_eq_true,List.all_eq_true,beq_iff_eq,Bool.or_eq_true,bne_iff_ne] at h
  obtain ⟨⟨⟨⟨⟨h1,h2⟩,h3⟩,h4⟩,h5⟩,h6⟩:=h
  refine ⟨h1,fun x hx e=>?_,fun x hx e=>?_,fun x hx e=>?_,h5,fun i j e=>?_⟩
  · rcases h2 x hx with z | z
    · exact absurd e z
    · exact z
  · rcases h3 x hx with z | z
    · exact absurd e z
    · exact z
  · rcases h4 x hx with (z | z) | z
    · exact absurd e z
    · exact .inl z
    · exact .inr z
  · have hi:i < cap.length:=(List.getElem?_eq_some_iff.mp e).1
    have:=h6 i (List.mem_range.mpr hi)
    rw [e] at this
    simp only at this
    cases e1:N'[i]? with
    | none=>rw [e1] at this; cases this
    | some a=>
      cases e2:N[j]? with
      | none=>rw [e1,e2] at this; cases this
      | some b=>
        rw [e1,e2] at this
        simp only [Bool.and_eq_true,beq_iff_eq] at this
        obtain ⟨rfl,z⟩:=this
        exact ⟨a,rfl,rfl,z⟩
def blkC (X:Cx) (N':List Str) (sc:Scope) (cl:List (Str × Addr)) (C:Addr) (s0:Shared) (H0:Hp) (ex:List Addr):Cx:=
  { X with N:=N',s₀:=s0,H₀:=H0,env:=compEnvC sc cl C X.env,outer:=X.stack,ex:=ex,fn:=fun x=>sc.names.lookup x == some .cell,pn:=[],xe:=fun _ _=>False }
section
variable {X:Cx}
theorem blk_invC {pins:List (Addr × Obj)} {σ:St} {H:Hp} {s:Shared} {N N':List Str} {sc scE:Scope} {cap:List (Option Nat)} {cl:List (Str × Addr)} {fp:List Addr}
    (I:Inv X pins σ H s) (hN:X.N=N) (hE:X.env.scope=scE) (ck:CompOkC N N' sc scE cap) (c1:∀ x c,cl.lookup x=some c->X.env.cells.lookup x=some c) (c2:∀ x ∈ sc.names,x.2=.free->∃ c,cl.lookup x.1=some c)
    (hf:∀ b ∈ fp,FpOk X pins H b) (hfs:∀ b ∈ fp,b < s.heap.objs.size) :
    Inv (blkC X N' sc (cellsFrom (s.heap.objs.size + 1) sc.names cl) s.heap.objs.size s H fp) [] (capOf cap σ) H { s with heap:=pushCells (s.heap.push { cls:=.type "dict",data:=.dict #[] }) sc.names }:=by
  obtain ⟨h₁,hh₁⟩:∃ h₁,pushCells (s.heap.push { cls:=.type "dict",data:=.dict #[] }) sc.names=h₁:=⟨_,rfl⟩
  obtain ⟨cl',hcl'⟩:∃ cl',cellsFrom (s.heap.objs.size + 1) sc.names cl=cl':=⟨_,rfl⟩
  rw [hh₁,hcl']
  have keep:∀ b o,s.heap.get? b=some o->h₁.get? b=some o:=fun b o e=>by rw [<- hh₁]; exact pushCells_keeps _ _ b o (Heap.get?_push_of_some _ e)
  have hns:h₁.Ns s.heap.objs.size (fun _=>none):=by rw [<- hh₁]; exact (Heap.Ns.new s.heap (.type "dict")).keeps (pushCells_keeps _ _)
  have look:∀ x c,cl'.lookup x=some c->cl.lookup x=some c\/(s.heap.objs.size + 1<=c/\h₁.IsCell c none):=fun x c e=>by
    rw [<- hcl'] at e
    have:=cellsFrom_look (sc.names) (s.heap.push { cls:=.type "dict",data:=.dict #[] }) cl x c (by rw [Heap.size_push]; exact e)
    rw [Heap.size_push,hh₁] at this
    rcases this with z | ⟨_,z,z'⟩
    · exact .inl z
    · exact .inr ⟨z,z'⟩
  have cellLt:∀ x c,cl.lookup x=some c->c < s.heap.objs.size:=fun x c e=>by
    obtain ⟨v,o,ho,_⟩:=I.cell x c (c1 x c e)
    exact Heap.lt_size ho
  have inj:∀ x y c,cl'.lookup x=some c->cl'.lookup y=some c->x=y:=by
    rw [<- hcl']
    exact cellsFrom_inj _ _ _ (fun x c e=>Nat.lt_succ_of_lt (cellLt x c e)) fun x y c a b=>I.ok.inj x y c (c1 x c a) (c1 y c b)
  have isC:∀ x,sc.names.lookup x=some .cell->∃ c,cl'.lookup x=some c:=fun x e=>by
    rw [<- hcl']
    exact Option.isSome_iff_exists.mp (PySem.W.cellsFrom_some _ _ _ (.inl e))
  have isF:∀ x,sc.names.lookup x=some .free->cl'.lookup x=cl.lookup x:=fun x e=>by
    rw [<- hcl']
    refine cellsFrom_old _ _ _ fun z=>?_
    have:=ck.cel _ z rfl
    rw [e] at this; cases this
  have kindOf:∀ x k,(compEnvC sc cl' s.heap.objs.size X.env).kindOf x=some k->k=.cell\/k=.free->sc.names.lookup x=some .free\/sc.names.lookup x=some .cell:=fun x k e hk=>by
    have e':(relabel sc X.env).names.lookup x=some k:=e
    rw [relabel_lookup] at e'
    cases q:sc.names.lookup x with
    | none=>rw [q] at e'; cases e'
    | some k'=>
      rw [q] at e'
      have e'':(if (k' == NameKind.free && X.env.scope.kind == .function && X.env.kindOf x == some .cell)=true then NameKind.cell else k')=k:=Option.some.inj e'
      by_cases hc:(k' == NameKind.free && X.env.scope.kind == .function && X.env.kindOf x == some .cell)=true
      · simp only [Bool.and_eq_true,beq_iff_eq] at hc
        rw [hc.1.1]; exact .inl rfl
      · rw [if_neg hc] at e''
        subst e''
        rcases hk with z | z
        · rw [z]; exact .inr rfl
        · rw [z]; exact .inl rfl
  have cellAt:∀ x c,X.env.cells.lookup x=some c->∀ v,s.heap.IsCell c v->h₁.IsCell c v:=fun x c e v ⟨o,ho,hd⟩=>⟨o,keep c o ho,hd⟩
  have Hnew:∀ c,s.heap.objs.size<=c->H c=none:=fun c hc=>I.hok.fresh hc
  refine ⟨⟨I.ok.mod,ck.kind,I.ok.glob,I.ok.blt,Nat.le_refl _,inj,fun x hx=>?_,fun x c h1 h2=>?_,I.ok.hd,I.ok.frames,.inl rfl,fun b hb=>?_,I.bs,
    Nat.le_trans I.ok.bsz I.sz,fun b o e hb=>?_,fun b hb hz=>?_,I.stack,I.stkFree⟩,rfl,I.bare,Un.kept keep,⟨_,hns,fun i x v e1 e2 e3=>?_⟩,fun x c e=>?_,Hnew _ (Nat.le_refl _),fun x c e=>?_,fun p hp=>(by cases hp),I.hok.kept keep,?_⟩
  · have hx:(compEnvC sc cl' s.heap.objs.size X.env).kindOf x=some .cell\/(compEnvC sc cl' s.heap.objs.size X.env).kindOf x=some .free:=hx
    have q:sc.names.lookup x=some .free\/sc.names.lookup x=some .cell:=by
      rcases hx with z | z
      · exact kindOf x _ z (.inl rfl)
      · exact kindOf x _ z (.inr rfl)
    rcases q with q | q
    · obtain ⟨c,hc⟩:=c2 _ (PySem.mem_of_lookup q) rfl
      exact ⟨c,(isF x q).trans hc⟩
    · exact isC x q
  · have h1:sc.names.lookup x=some .cell:=by simpa [blkC] using h1
    have h2:cl'.lookup x=some c:=h2
    rw [<- hcl'] at h2
    exact Nat.le_trans (Nat.le_succ _) (cellsFrom_new _ _ _ (PySem.mem_of_lookup h1) h2)
  · refine ⟨Nat.ne_of_lt (hfs b hb),fun x c e=>?_⟩
    rcases look x c e with z | ⟨z,_⟩
    · exact (hf b hb).2.2.2.2.1 x c (c1 x c z)
    · exact fun q=>absurd (Nat.lt_of_lt_of_le (hfs b hb) (Nat.le_trans (Nat.le_succ _) (q ▸ z))) (Nat.lt_irrefl _)
  · rcases (hf b hb).2.2.2.1 with z | z
    · exact I.ok.noex b o e z
    · exact absurd (Nat.lt_of_lt_of_le (Heap.lt_size e) (Nat.le_trans I.ok.bsz z)) (Nat.lt_irrefl _)
  · rcases List.mem_cons.mp (I.stkSub b hz) with e | z
    · exact (hf b hb).2.1 e
    · exact (hf b hb).2.2.1 z
  · have e1:N'[i]?=some x:=e1
    have e2:(capOf cap σ)[i]?=some (some v):=e2
    unfold capOf at e2
    rw [List.getElem?_map] at e2
    cases q:cap[i]? with
    | none=>rw [q] at e2; cases e2
    | some oj=>
      rw [q] at e2
      cases oj with
      | none=>cases e2
      | some j=>
        obtain ⟨y,z1,z2,z3⟩:=ck.at_ i j q
        rw [e1] at z1; cases z1
        have ev:σ[j]?=some (some v):=by
          have e2':(σ[j]?).join=some v:=Option.some.inj e2
          cases r:σ[j]? with
          | none=>rw [r] at e2'; cases e2'
          | some o=>rw [r] at e2'; exact congrArg some e2'
        obtain ⟨m',hm',hl⟩:=I.loc
        have sK:X.env.scope.names.lookup x=some .cell\/X.env.scope.names.lookup x=some .free:=by rw [hE]; exact ck.fre _ (PySem.mem_of_lookup z3) rfl
        obtain ⟨u,ru,l⟩:=hl j x v (by rw [hN]; exact z2) ev (sK.elim (fun z=>.inr (.inl z)) fun z=>.inr (.inr z))
        refine ⟨u,ru,?_⟩
        obtain ⟨c,hc⟩:=c2 _ (PySem.mem_of_lookup z3) rfl
        rcases l with ⟨k,_⟩ | ⟨k,c',hc',hcell⟩
        · have k:X.env.scope.names.lookup x=some .local:=k
          rcases sK with z | z <;> (rw [k] at z; cases z)
        · have:c=c':=by
            have q1:=c1 x c hc
            rw [hc'] at q1
            exact (Option.some.inj q1).symm
          subst this
          refine .inr ⟨?_,c,(isF x z3).trans hc,cellAt x c hc' _ hcell⟩
          show (relabel sc X.env).names.lookup x=some .cell\/(relabel sc X.env).names.lookup x=some .free
          rw [relabel_lookup,z3]
          show some (if _ then NameKind.cell else NameKind.free)=_\/some (if _ then NameKind.cell else NameKind.free)=_
          split
          · exact .inl rfl
          · exact .inr rfl
  · rcases look x c e with z | ⟨_,z⟩
    · obtain ⟨v,q⟩:=I.cell x c (c1 x c z)
      exact ⟨v,cellAt x c (c1 x c z) v q⟩
    · exact ⟨_,z⟩
  · rcases look x c e with z | ⟨z,_⟩
    · exact I.freeC x c (c1 x c z)
    · exact Hnew c (by omega)
  · unfold capOf
    show _=N'.length
    rw [List.length_map]
    exact ck.len
end
end L2
namespace L2
open PySem PySem.Spec PyProof.Rows
section
variable {X:Cx}
end
end L2
namespace PySem
open Sem (wp)
section
variable {prog:Program} {w:World} {A:Around} {E:Value->Shared->Prop} {hp:Heap} {gs:Array GenState} {dr:Drawn} {tk:Nat} {sy:OsState}
variable {cn cq:Str} {kC kN:Addr} {bas tl tB:List Value} {hd:Bool} {sns:List Str} {subs:List Value} {abb:Bool} {coll:Option Bool} {dic:Option Addr} {j0 j1 j2 j3 j5:Option Value} {BB Bn newI nI initI inN:String} {tN:List Value}
end
section
variable {M:Model} {A:Around} {E:Value->Shared->Prop} {env:Env}
variable {cn cq:Str} {kC kN:Addr} {bas tl:List Value} {hd:Bool} {sns:List Str} {subs:List Value} {abb:Bool} {coll:Option Bool} {dic:Option Addr} {j0 j1 j2 j3 j5:Option Value} {newI:String}
end
end PySem
namespace L2
open PySem PySem.Spec PyProof.Rows PySem.W PySem.Builtin.ObjectAttr
section
variable {prog:Program} {w:World} {A:Around} {E:Value->Shared->Prop} {s:Shared} {K:Frag} {x C W:Addr} {name:Str} {v:Value}
end
end L2
namespace L2
open PySem PySem.Spec PyProof.Rows PySem.W
section
variable {prog:Program} {w:World} {A:Around} {E:Value->Shared->Prop} {s:Shared} {K:Frag} {x C W f:Addr}
end
section
variable {X:Cx} {x C W f:Addr}
end
end L2
namespace PySem
open Sem (wp)
def fld2 (o:Obj):Option Value:=match o.data with | .fields vs=>vs[2]? | _=>none
theorem fld2_map {o:Obj} {vs:Array Value} {x:Value} (od:o.data=.fields vs):fld2 (Obj.mapFields (·.setIfInBounds 1 x) o)=fld2 o:=by
  have d:=Obj.data_mapFields od (·.setIfInBounds 1 x)
  unfold fld2
  rw [d,od]
  exact Array.getElem?_setIfInBounds_ne (by decide)
section
variable {M:Model} {A:Around} {E:Value->Shared->Prop} {s:Shared} {bs:Heap} {en:Env} {ou:List Env} {L e:Addr} {ob:Obj} {vs:Array Value} {a0:Value} {Q:Unit->Shared->Prop}
theorem entry_dict {head:Value} {nx:Bool} (fr:A.frames=some (en :: ou)) (ff:s.heap.FunFrames bs (en :: ou)) (ef:en.frame=some L) (oe:s.heap.get? e=some ob) (kb:bs.StaysIn s.heap) (ne:bs.get? e=none)
    (od:ob.data=.fields vs) (z1:1 < vs.size) (z0:vs[0]?=some a0)
    (h:∀ h',Heap.LeftW bs (en :: ou) e ob.cls a0 s.heap h'->(∃ o',h'.get? e=some o'/\o'.dict=ob.dict/\fld2 o'=fld2 ob)->Q () { s with heap:=h' }) :
    wpAny M A (do
      let a <- frameOf en
      let pl <- entryPlaceOf L nx
      let b <- EntryCells.newEntry head a .none (rawInt L) .none pl
      setField (.ref e) 1 b) (fun _ s'=>wpAny M A (setFlight (.ref e) none) Q E s') E s:=by
  have nf:e ∉ (en :: ou).filterMap (·.frame):=fun m=>by
    obtain ⟨_,o,q,n⟩:=ff.mem m
    rw [oe] at q
    cases q
    exact n vs od
  refine wpAny_bind (wpAny_frameOf_fun fr ff ef fun g gs=>?_)
  refine wpAny_bind (wpAny_entryPlaceOf fun pl hp=>?_)
  unfold EntryCells.newEntry newFields
  refine wpAny_bind (wpAny_newObj_type ?_ (hp.sizeOk5 _ _ _ _ _))
  have ge:g.get? e=some ob:=(gs.2.1 e nf).trans oe
  have gb:bs.StaysIn g:=fun b o q=>(gs.2.1 b fun m=>by
    rw [(ff.mem m).1] at q
    cases q).trans (kb b o q)
  obtain ⟨tb,etb⟩:∃ tb:List Value,[head,.ref L,.none,rawInt L,.none] ++ (if pl.isEmpty then List.replicate 6 Value.none else pl)=tb:=⟨_,rfl⟩
  have l5:3 < tb.length/\tb[3]?=some (rawInt L):=by
    rw [<- etb]
    exact ⟨by simp,by simp⟩
  rw [etb]
  have ge2:=Heap.get?_push_of_some (h:=g) { cls:=.type "traceback",dict:=none,data:=.fields tb.toArray } ge
  refine wpAny_setField ge2 od z1 ?_
  have te:g.objs.size ≠ e:=Nat.ne_of_gt (Heap.lt_size ge)
  have d3:=Obj.data_mapFields od (·.setIfInBounds 1 (Value.ref g.objs.size))
  have ge3:=Heap.get?_update_self (Obj.mapFields (·.setIfInBounds 1 (Value.ref g.objs.size))) ge2 (Obj.isFreed_of_fields d3)
  have gt3:=(Heap.get?_update_other (g.push { cls:=.type "traceback",dict:=none,data:=.fields tb.toArray })
    (Obj.mapFields (·.setIfInBounds 1 (Value.ref g.objs.size))) te.symm).trans
    (Heap.get?_push_size g rfl)
  unfold setFlight
  refine wpAny_bind (wpAny_field ge3 d3 (x:=.ref g.objs.size) (by simp [z1]) ?_)
  rw [if_pos (show (Value.ref g.objs.size != Value.none)=true by simp)]
  refine wpAny_setField gt3 rfl (by simpa using l5.1) (h _ ?_ ?_)
  all_goals
    obtain ⟨g3,eg3⟩:∃ g3,((g.push { cls:=.type "traceback",dict:=none,data:=.fields tb.toArray }).update e (Obj.mapFields (·.setIfInBounds 1 (Value.ref g.objs.size))))=g3:=⟨_,rfl⟩
    rw [eg3] at ge3 gt3 ⊢
  · have kp:∀ b o,b ≠ e->g.get? b=some o->(g3.update g.objs.size (Obj.mapFields (·.setIfInBounds 3 ((none:Option Addr).elim Value.none fun f=>rawInt f)))).get? b=some o:=fun b o n q=>by
      rw [Heap.get?_update_other _ _ (Nat.ne_of_gt (Heap.lt_size q)),<- eg3,Heap.get?_update_other _ _ n.symm]
      exact Heap.get?_push_of_some _ q
    have nr:∀ b o,s.heap.get? b=some o->(∀ ws,o.data ≠ .fields ws)->b ≠ e:=fun b o q n z=>by
      rw [z,oe] at q
      cases q
      exact n vs od
    refine ⟨fun b o q=>kp b o (fun z=>by rw [z,ne] at q; cases q) (gb b o q),ff.of_keeps fun b o q n=>?_,?_,fun b o q n=>?_⟩
    · obtain ⟨sl,z⟩:=gs.2.2 b o q
      exact ⟨_,kp b _ (nr b o q n) z,rfl⟩
    · refine ⟨_,_,g.objs.size,_,_,?_,⟨Obj.cls_mapFields _ _,?_⟩,d3,by simp [z1],gb.fresh,te,Heap.get?_update_self _ gt3 (Obj.isFreed_of_fields (Obj.data_mapFields rfl _)),Obj.data_mapFields rfl _,?_⟩
      · rw [Heap.get?_update_other _ _ te]
        exact ge3
      · rw [Array.getElem?_setIfInBounds_ne (by decide)]
        exact z0
      · have:=l5.1
        simp [this]
    · obtain ⟨sl,z⟩:=gs.2.2 b o q
      exact ⟨sl,kp b _ (nr b o q n) z⟩
  · refine ⟨_,(Heap.get?_update_other _ _ te).trans ge3,?_,fld2_map od⟩
    cases ob with
    | mk c d dt sl=>cases dt <;> first | rfl | cases od
theorem leave1_dict (fr:A.frames=some (en :: ou)) (ff:s.heap.FunFrames bs (en :: ou)) (ef:en.frame=some L) (oe:s.heap.get? e=some ob) (kb:bs.StaysIn s.heap) (ne:bs.get? e=none)
    (od:ob.data=.fields vs) (z1:vs[1]?=some .none) (z0:vs[0]?=some a0)
    (h:∀ h',Heap.LeftW bs (en :: ou) e ob.cls a0 s.heap h'->(∃ o',h'.get? e=some o'/\o'.dict=ob.dict/\fld2 o'=fld2 ob)->Q () { s with heap:=h' }):wpAny M A (leaving en (.ref e)) Q E s:=by
  unfold leaving noteFrame
  simp only [ef]
  refine wpAny_bind (wpAny_bind (wpAny_field oe od z1 ?_))
  rw [if_neg (by decide)]
  exact entry_dict fr ff ef oe kb ne od (Array.getElem?_eq_some_iff.mp z1).1 z0 h
theorem leave2_dict {cls:Value} {dv:Option Addr} (fr:A.frames=some (en :: ou)) (ef:en.frame=some L) (fl:Heap.FlyingW bs (en :: ou) e cls a0 s.heap) (dd:∃ o',s.heap.get? e=some o'/\o'.dict=dv/\fld2 o'=some .none)
    (h:∀ h',Heap.FlyingW bs ou e cls a0 h'->(∃ o',h'.get? e=some o'/\o'.dict=dv/\fld2 o'=some .none)->s.heap.UpToSlots h'->Q () { s with heap:=h' }):wpAny M A (leaving en (.ref e)) Q E s:=by
  obtain ⟨kb,ne,ff,oe,ws,T,oT,ts,he,⟨hc,z0⟩,od,z1,nT,Te,hT,dT,z3⟩:=fl
  obtain ⟨o',ho',hdv,hfl⟩:=dd
  rw [he] at ho'
  cases ho'
  unfold leaving noteFrame
  simp only [ef]
  refine wpAny_bind (wpAny_bind (wpAny_field he od z1 ?_))
  rw [if_pos (show (Value.ref T != Value.none)=true by simp)]
  refine wpAny_bind (wpAny_field hT dT z3 ?_)
  rw [if_neg (show ¬ ((Value.none == rawInt L)=true) by simp [rawInt])]
  refine wpAny_bind (wpAny_setField hT dT (Array.getElem?_eq_some_iff.mp z3).1 ?_)
  have ot:∀ b,b ≠ T->(s.heap.update T (Obj.mapFields (·.setIfInBounds 3 Value.none))).get? b=s.heap.get? b:=fun b n=>Heap.get?_update_other _ _ n.symm
  have nr:∀ b o,s.heap.get? b=some o->(∀ ws,o.data ≠ .fields ws)->b ≠ T:=fun b o q n z=>by
    rw [z,hT] at q
    cases q
    exact n ts dT
  refine entry_dict fr (ff.of_keeps fun b o q n=>⟨o,(ot b (nr b o q n)).trans q,rfl⟩) ef ((ot e Te.symm).trans he) (fun b o q=>(ot b fun z=>by rw [z,nT] at q; cases q).trans (kb b o q)) ne od (Array.getElem?_eq_some_iff.mp z1).1 z0 fun h' lf d'=>?_
  obtain ⟨k1,⟨_,_,k2⟩,k3,k4⟩:=lf
  rw [hc] at k3
  exact h h' ⟨k1,ne,k2,k3⟩ (d'.imp fun o q=>⟨q.1,q.2.1.trans hdv,q.2.2.trans hfl⟩) fun b o q n=>k4 b o ((ot b (nr b o q n)).trans q) n
theorem note_entry_dict {head:Value} {nx:Bool} (fr:A.frames=some (en :: ou)) (ff:s.heap.FunFrames bs (en :: ou)) (ef:en.frame=some L) (oe:s.heap.get? e=some ob) (kb:bs.StaysIn s.heap) (ne:bs.get? e=none)
    (od:ob.data=.fields vs) (z1:1 < vs.size) (z0:vs[0]?=some a0)
    (h:∀ h',Heap.NotedW bs (en :: ou) e ob.cls a0 (rawInt L) s.heap h'->(∃ o',h'.get? e=some o'/\o'.dict=ob.dict/\fld2 o'=fld2 ob)->Q () { s with heap:=h' }) :
    wpAny M A (do
      let a <- frameOf en
      let pl <- entryPlaceOf L nx
      let b <- EntryCells.newEntry head a .none (rawInt L) .none pl
      setField (.ref e) 1 b) Q E s:=by
  have nf:e ∉ (en :: ou).filterMap (·.frame):=fun m=>by
    obtain ⟨_,o,q,n⟩:=ff.mem m
    rw [oe] at q
    cases q
    exact n vs od
  refine wpAny_bind (wpAny_frameOf_fun fr ff ef fun g gs=>?_)
  refine wpAny_bind (wpAny_entryPlaceOf fun pl hp=>?_)
  unfold EntryCells.newEntry newFields
  refine wpAny_bind (wpAny_newObj_type ?_ (hp.sizeOk5 _ _ _ _ _))
  have ge:g.get? e=some ob:=(gs.2.1 e nf).trans oe
  have gb:bs.StaysIn g:=fun b o q=>(gs.2.1 b fun m=>by
    rw [(ff.mem m).1] at q
    cases q).trans (kb b o q)
  obtain ⟨tb,etb⟩:∃ tb:List Value,[head,.ref L,.none,rawInt L,.none] ++ (if pl.isEmpty then List.replicate 6 Value.none else pl)=tb:=⟨_,rfl⟩
  have l5:3 < tb.length/\tb[3]?=some (rawInt L):=by
    rw [<- etb]
    exact ⟨by simp,by simp⟩
  rw [etb]
  have ge2:=Heap.get?_push_of_some (h:=g) { cls:=.type "traceback",dict:=none,data:=.fields tb.toArray } ge
  have te:g.objs.size ≠ e:=Nat.ne_of_gt (Heap.lt_size ge)
  have d3:=Obj.data_mapFields od (·.setIfInBounds 1 (Value.ref g.objs.size))
  have ge3:=Heap.get?_update_self (Obj.mapFields (·.setIfInBounds 1 (Value.ref g.objs.size))) ge2 (Obj.isFreed_of_fields d3)
  have gt3:=(Heap.get?_update_other (g.push { cls:=.type "traceback",dict:=none,data:=.fields tb.toArray })
    (Obj.mapFields (·.setIfInBounds 1 (Value.ref g.objs.size))) te.symm).trans
    (Heap.get?_push_size g rfl)
  refine wpAny_setField ge2 od z1 (h _ ?_ ?_)
  · have kp:∀ b o,b ≠ e->g.get? b=some o->((g.push { cls:=.type "traceback",dict:=none,data:=.fields tb.toArray }).update e (Obj.mapFields (·.setIfInBounds 1 (Value.ref g.objs.size)))).get? b=some o:=fun b o n q=>by
      rw [Heap.get?_update_other _ _ n.symm]
      exact Heap.get?_push_of_some _ q
    have nr:∀ b o,s.heap.get? b=some o->(∀ ws,o.data ≠ .fields ws)->b ≠ e:=fun b o q n z=>by
      rw [z,oe] at q
      cases q
      exact n vs od
    refine ⟨fun b o q=>kp b o (fun z=>by rw [z,ne] at q; cases q) (gb b o q),ff.of_keeps fun b o q n=>?_,?_,fun b o q n=>?_⟩
    · obtain ⟨sl,z⟩:=gs.2.2 b o q
      exact ⟨_,kp b _ (nr b o q n) z,rfl⟩
    · refine ⟨_,_,g.objs.size,_,_,ge3,⟨Obj.cls_mapFields _ _,?_⟩,d3,by simp [z1],gb.fresh,te,gt3,rfl,by simpa using l5.2⟩
      rw [Array.getElem?_setIfInBounds_ne (by decide)]
      exact z0
    · obtain ⟨sl,z⟩:=gs.2.2 b o q
      exact ⟨sl,kp b _ (nr b o q n) z⟩
  · refine ⟨_,ge3,?_,fld2_map od⟩
    cases ob with
    | mk c d dt sl=>cases dt <;> first | rfl | cases od
theorem look_dict {cls:Value} {dv:Option Addr} (fr:A.frames=some (en :: ou)) (ef:en.frame=some L) (fl:Heap.FlyingW bs (en :: ou) e cls a0 s.heap) (dd:∃ o',s.heap.get? e=some o'/\o'.dict=dv/\fld2 o'=some .none)
    (h:∀ h',Heap.HeldW bs (en :: ou) e cls a0 L h'->(∃ o',h'.get? e=some o'/\o'.dict=dv/\fld2 o'=some .none)->s.heap.UpToSlots h'->Q () { s with heap:=h' }):wpAny M A (noteFrame (.ref e) en) Q E s:=by
  obtain ⟨kb,ne,ff,oe,ws,T,oT,ts,he,⟨hc,z0⟩,od,z1,nT,Te,hT,dT,z3⟩:=fl
  obtain ⟨o',ho',hdv,hfl⟩:=dd
  rw [he] at ho'
  cases ho'
  unfold noteFrame
  simp only [ef]
  refine wpAny_bind (wpAny_field he od z1 ?_)
  rw [if_pos (show (Value.ref T != Value.none)=true by simp)]
  refine wpAny_bind (wpAny_field hT dT z3 ?_)
  rw [if_neg (show ¬ ((Value.none == rawInt L)=true) by simp [rawInt])]
  refine wpAny_bind (wpAny_setField hT dT (Array.getElem?_eq_some_iff.mp z3).1 ?_)
  have ot:∀ b,b ≠ T->(s.heap.update T (Obj.mapFields (·.setIfInBounds 3 Value.none))).get? b=s.heap.get? b:=fun b n=>Heap.get?_update_other _ _ n.symm
  have nr:∀ b o,s.heap.get? b=some o->(∀ ws,o.data ≠ .fields ws)->b ≠ T:=fun b o q n z=>by
    rw [z,hT] at q
    cases q
    exact n ts dT
  refine note_entry_dict fr (ff.of_keeps fun b o q n=>⟨o,(ot b (nr b o q n)).trans q,rfl⟩) ef ((ot e Te.symm).trans he) (fun b o q=>(ot b fun z=>by rw [z,nT] at q; cases q).trans (kb b o q)) ne od (Array.getElem?_eq_some_iff.mp z1).1 z0 fun h' nt d'=>?_
  obtain ⟨k1,k2,k3,k4⟩:=nt
  rw [hc] at k3
  exact h h' ⟨k1,ne,k2,k3⟩ (d'.imp fun o q=>⟨q.1,q.2.1.trans hdv,q.2.2.trans hfl⟩) fun b o q n=>k4 b o ((ot b (nr b o q n)).trans q) n
theorem flight_dict {l:List Env} {cls fv:Value} {dv:Option Addr} (kb:bs.StaysIn s.heap) (ne:bs.get? e=none) (ff:s.heap.FunFrames bs l) (tr:s.heap.TracedAtW bs e cls a0 fv) (dd:∃ o',s.heap.get? e=some o'/\o'.dict=dv/\fld2 o'=some .none)
    (h:∀ h',Heap.FlyingW bs l e cls a0 h'->(∃ o',h'.get? e=some o'/\o'.dict=dv/\fld2 o'=some .none)->s.heap.UpToSlots h'->Q () { s with heap:=h' }):wpAny M A (setFlight (.ref e) none) Q E s:=by
  obtain ⟨oe,ws,T,oT,ts,he,hc,od,z1,nT,Te,hT,dT,z3⟩:=tr
  obtain ⟨o',ho',hdv,hfl⟩:=dd
  have s3:=(Array.getElem?_eq_some_iff.mp z3).1
  have ot:∀ b,b ≠ T->(s.heap.update T (Obj.mapFields (·.setIfInBounds 3 ((none:Option Addr).elim Value.none fun f=>rawInt f)))).get? b=s.heap.get? b:=fun b n=>Heap.get?_update_other _ _ n.symm
  have nr:∀ b o,s.heap.get? b=some o->(∀ ws,o.data ≠ .fields ws)->b ≠ T:=fun b o q n z=>by
    rw [z,hT] at q
    cases q
    exact n ts dT
  unfold setFlight
  refine wpAny_bind (wpAny_field he od z1 ?_)
  rw [if_pos (show (Value.ref T != Value.none)=true by simp)]
  refine wpAny_setField hT dT s3 (h _ ⟨fun b o q=>(ot b fun z=>by rw [z,nT] at q; cases q).trans (kb b o q),ne,ff.of_keeps fun b o q n=>⟨o,(ot b (nr b o q n)).trans q,rfl⟩,?_⟩ ⟨o',(ot e Te.symm).trans ho',hdv,hfl⟩ fun b o q n=>⟨o.slots,(ot b (nr b o q n)).trans q⟩)
  exact ⟨oe,ws,T,_,_,(ot e Te.symm).trans he,hc,od,z1,nT,Te,Heap.get?_update_self _ hT (Obj.isFreed_of_fields (Obj.data_mapFields dT _)),Obj.data_mapFields dT _,by simp [s3]⟩
end
end PySem
namespace L2
open PySem PySem.Spec PyProof.Rows
def CXD (P:Program) (w:World):CXT:=fun outer H s E e s'=>∃ a cls a0 dv H' B,e=Value.ref a/\Fly P w outer H H' s s' a cls a0 B/\(∃ o',s'.heap.get? a=some o'/\o'.dict=dv/\fld2 o'=some .none)/\E cls dv H'
theorem pass00D {P:Program} {w:World} {X:Cx}:Passes (CXD P w) X E0:=fun _ _ _ _ _ _ _ h=>by
  obtain ⟨_,_,_,_,_,_,_,_,_,z⟩:=h
  exact z.elim
def delH (H:Hp) (a:Addr):Hp:=fun b=>if b=a then none else H b
theorem delH_ne {H:Hp} {a b:Addr} (h:b ≠ a):delH H a b=H b:=by unfold delH; rw [if_neg h]
theorem delH_self {H:Hp} {a:Addr}:delH H a a=none:=by unfold delH; rw [if_pos rfl]
section
variable {P:Program} {w:World} {K:PySem.W.Frag} {mg:Str->Option Value} {base:Heap} {N:List Str} {qual:Str} {scope:Scope} {f:Addr} {cd:Value} {A:Around} {outer:List Env} {s:Shared} {H:Hp} {E:XK}
abbrev cxD (P:Program) (w:World) (K:PySem.W.Frag) (mg:Str->Option Value) (base:Heap) (N:List Str) (qual:Str) (scope:Scope) (f:Addr) (cd:Value) (A:Around) (outer:List Env) (s:Shared) (H:Hp) (E:XK):Cx:=cxOf (CXD P w) P w K mg base N qual scope f cd A outer s H E
theorem stk_neD {pins:List (Addr × Obj)} {σ:St} {H1:Hp} {s1:Shared} (I:Inv (cxD P w K mg base N qual scope f cd A outer s H E) pins σ H1 s1) {b:Addr} {o:Obj} (e:s.heap.get? b=some o) (n:b ∉ frs outer):b ∉ frs (cxD P w K mg base N qual scope f cd A outer s H E).stack:=fun hb=>by
  rcases List.mem_cons.mp (I.stkSub b hb) with z | z
  · have h1:b < s.heap.objs.size:=Heap.lt_size e
    have h2:s.heap.objs.size<=(cxD P w K mg base N qual scope f cd A outer s H E).env.locals:=I.ok.above
    rw [<- z] at h2
    exact absurd (Nat.lt_of_lt_of_le h1 h2) (Nat.lt_irrefl _)
  · exact n z
theorem frs_subD {b:Addr} (h:b ∈ frs outer):b ∈ frs (cxD P w K mg base N qual scope f cd A outer s H E).stack:=by
  show b ∈ frs (_ :: outer)
  unfold frs at h ⊢
  rw [List.filterMap_cons]
  split
  · exact h
  · exact List.mem_cons_of_mem _ h
theorem raiseD {pins:List (Addr × Obj)} {σ:St} {H1:Hp} {s1:Shared} {hx:Heap} {e C t:Addr} {dv:Option Addr} (I:Inv (cxD P w K mg base N qual scope f cd A outer s H E) pins σ H1 s1)
    (hk:∀ b o,b ≠ e->s1.heap.get? b=some o->hx.get? b=some o) (he1:∀ o,s1.heap.get? e=some o->∃ vs,o.data=.fields vs) (new:s.heap.get? e=none) (hH:H1 e=none)
    (oe:hx.get? e=some { cls:=.ref C,dict:=dv,data:=.fields #[.ref t,.none,.none,.none,.bool false,.none] }) (hE:E (.ref C) dv H1) :
    (cxD P w K mg base N qual scope f cd A outer s H E).xe (.ref e) { s1 with heap:=hx }:=by
  have hin:∀ en ∈ (cxD P w K mg base N qual scope f cd A outer s H E).stack,∀ b,en.frame=some b->b ∈ e :: frs (cxD P w K mg base N qual scope f cd A outer s H E).stack:=fun en he b hb=>List.mem_cons_of_mem _ (List.mem_filterMap.mpr ⟨en,he,hb⟩)
  have ff:=PySem.W.funFrames_hide I.stack hin
  have nee:∀ b o,s1.heap.get? b=some o->(∀ vs,o.data ≠ .fields vs)->b ≠ e:=fun b o q n z=>by
    subst z
    obtain ⟨vs,d⟩:=he1 o q
    exact n vs d
  have hid:(PySem.W.hideAll s1.heap (e :: frs (cxD P w K mg base N qual scope f cd A outer s H E).stack)).get? e=none:=PySem.W.hideAll_none _ List.mem_cons_self
  have kb:(PySem.W.hideAll s1.heap (e :: frs (cxD P w K mg base N qual scope f cd A outer s H E).stack)).StaysIn hx:=fun b o q=>hk b o (fun z=>by rw [z,hid] at q; cases q) (PySem.W.of_hideAll _ q)
  show wpAny (model P w) _ (leaving _ (.ref e)) _ _ _
  refine leave1_dict (bs:=PySem.W.hideAll s1.heap (e :: frs (cxD P w K mg base N qual scope f cd A outer s H E).stack)) (a0:=.ref t) (s:={ s1 with heap:=hx }) I.ok.frames (ff.of_keeps fun b o q n=>⟨o,hk b o (nee b o q n) q,rfl⟩) rfl oe kb hid rfl rfl rfl fun h2 lf dd=>?_
  obtain ⟨k1,⟨_,_,k2⟩,k3,k4⟩:=lf
  have noex:∀ b:Addr,b ∉ (cxD P w K mg base N qual scope f cd A outer s H E).ex:=fun b z=>absurd (show b ∈ ([]:List Addr) from z) (by simp)
  have nse:∀ b o,s.heap.get? b=some o->b ≠ e:=fun b o q z=>by rw [z,new] at q; cases q
  have out:∀ b o,s.heap.get? b=some o->b ∉ frs outer->b ∉ e :: frs (cxD P w K mg base N qual scope f cd A outer s H E).stack:=fun b o q n m=>by
    rcases List.mem_cons.mp m with z | z
    · exact nse b o q z
    · exact stk_neD I q n z
  refine ⟨e,.ref C,.ref t,dv,H1,_,rfl,⟨I.os,I.bare,⟨k1,hid,k2,k3⟩,fun b u q=>?_,fun b o q n hb=>?_,fun b o q hb=>?_,fun b o q hb=>?_,fun b o q n=>I.base.free b o q n (noex b),I.base.tups,I.base.frzs,I.base.tbls⟩,dd,hE⟩
  · have ne:∀ c v,H1 c=some v->c ∉ e :: frs (cxD P w K mg base N qual scope f cd A outer s H E).stack:=fun c v z m=>by
      rcases List.mem_cons.mp m with m | m
      · rw [m,hH] at z; cases z
      · rw [I.stkFree c m] at z; cases z
    refine (I.hok b u q).stay (fun c v hc r=>PySem.W.hideAll_get _ r ?_) (fun _ r=>r) fun _ _ r=>r
    rcases hc with rfl | hc
    · exact ne c u q
    · exact ne c _ hc
  · exact PySem.W.hideAll_get _ (I.base.keep b o q n hb (noex b)) (out b o q hb)
  · obtain ⟨o',z⟩:=I.base.there b o q (noex b)
    exact ⟨o',PySem.W.hideAll_get _ z (out b o q hb)⟩
  · obtain ⟨sl,z⟩:=I.base.slot b o q (I.ok.frf b hb) hb (noex b)
    obtain ⟨_,o',ho',hnf⟩:=I.ok.funs.mem hb
    have ho2:s.heap.get? b=some o':=ho'
    rw [q] at ho2
    cases ho2
    obtain ⟨sl',z'⟩:=k4 b _ (hk b _ (nse b o q) z) hnf
    exact ⟨sl',z'⟩
theorem pass_onD:Passes (CXD P w) (cxD P w K mg base N qual scope f cd A outer s H E) E:=by
  intro pins σ H1 s1 e s' I h
  obtain ⟨a,cls,a0,dv,H',B,rfl,F,dd,hE⟩:=h
  show wpAny (model P w) _ (leaving _ (.ref a)) _ _ _
  have noex:∀ b:Addr,b ∉ (cxD P w K mg base N qual scope f cd A outer s H E).ex:=fun b z=>absurd (show b ∈ ([]:List Addr) from z) (by simp)
  refine leave2_dict I.ok.frames rfl F.fl dd fun h2 x1 d2 x2=>?_
  refine ⟨a,cls,a0,dv,H',B,rfl,⟨F.os.trans I.os,F.bare,x1,F.hokB,fun b o q n hb=>?_,fun b o q hb=>?_,fun b o q hb=>?_,fun b o q n=>?_,fun b xs q=>F.tups b xs (I.base.tups b xs q),fun b o u q=>F.frzs b o u (I.base.frzs b o u q),fun b ps q=>?_⟩,d2,hE⟩
  · exact F.keep b o (I.base.keep b o q n hb (noex b)) (I.base.free b o q n (noex b)) (stk_neD I q hb)
  · obtain ⟨o',z⟩:=I.base.there b o q (noex b)
    exact F.there b o' z (stk_neD I q hb)
  · obtain ⟨sl,z⟩:=I.base.slot b o q (I.ok.frf b hb) hb (noex b)
    obtain ⟨_,o',ho',hnf⟩:=I.ok.funs.mem hb
    have ho2:s.heap.get? b=some o':=ho'
    rw [q] at ho2
    cases ho2
    obtain ⟨sl',z'⟩:=F.slot b _ z (frs_subD hb)
    obtain ⟨sl2,z2⟩:=x2 b _ z' hnf
    exact ⟨sl2,z2⟩
  · obtain ⟨o',z⟩:=I.base.there b o q (noex b)
    exact F.free b o' z (I.base.free b o q n (noex b))
  · obtain ⟨m1,e1⟩:=I.base.tbls b ps q
    obtain ⟨m2,e2⟩:=F.tbls b _ e1
    exact ⟨m1 ++ m2,by rw [e2,Array.append_assoc]⟩
end
section
variable {X:Cx}
def RaiseD (X:Cx) (E:XK):Prop:=∀ (pins:List (Addr × Obj)) (σ:St) (H0 H1:Hp) (s0 s1:Shared) (hx:Heap) (e C t:Addr) (dv:Option Addr),Inv X pins σ H0 s0->s0.heap.get? e=none->Inv X pins σ H1 s1->(∀ b o,b ≠ e->s1.heap.get? b=some o->hx.get? b=some o) ->
  (∀ o,s1.heap.get? e=some o->∃ vs,o.data=.fields vs)->H1 e=none->hx.get? e=some { cls:=.ref C,dict:=dv,data:=.fields #[.ref t,.none,.none,.none,.bool false,.none] }->E (.ref C) dv H1->X.xe (.ref e) { s1 with heap:=hx }
theorem ps_raiseD {x:Str} {C:Addr} {e:Expr} {t:TA} {E:XK} {np cpos pos:Pos} (hcalm:X.calm=true) (RO:RaiseD X E) (hg:Gl X x) (hm:X.mg x=some (.ref C)) (q:PySem.W.excIn X.K C bmVE "ValueError.__new__" = true) (ha:PA X [e] t)
    (hdb:(x == ("__debug__" : Str))=false:=by decide) (he:starEach [e] X.env=[(false,eval e X.env)]:=by rfl):PS X (.Raise (some (.Call (.Name x np) [e] [] cpos)) none pos) (tRaise C E t):=by
  intro pins s σ H D I h
  obtain ⟨tl,N,nm,qn,bs,hdct,sn,sub,ab,col,dd,k0,k1,k2,k3,k5,mN,hC,hN,hni,T⟩:=(own_obj I.mod.kin hm q).obj
  refine wpAny_Raise_call_subU (C:=C) (nm:=nm) (q:=qn) (N:=N) (bs:=bs) (bm:=tl) (hdct:=hdct) (sn:=sn) (sub:=sub) (ab:=ab) (col:=col) (dd:=dd) (k0:=k0) (k1:=k1) (k2:=k2) (k3:=k3) (k5:=k5)
    PySem.F.excBase_ValueError (by decide +kernel) PySem.F.excBase_ValueError (mN:=mN) (T.hasType (by decide +kernel)) (I.ok.hd hcalm) (by rw [he]; rfl) hni (ld_glob I hg hm ⟨rfl,?_⟩ hdb)
  have ha':=ha cpos pins s σ H _ I h
  rw [he] at ha' ⊢
  refine Calls.evalArgs_plain (wpAny_mono ha' (fun us s1 ⟨vs,H1,I1,r,z,hE⟩=>?_) fun _ _ y=>y)
  refine ⟨rfl,by rw [<- r.length]; exact z,I1.bk _ _ hC,hN.keeps I1.bk,T.keeps I1.bk,fun h' e' hx=>?_⟩
  obtain ⟨t,oe,_,_⟩:=hx.there
  exact RO pins σ H1 H1 s1 s1 h' e' C t none I1 hx.new I1 (fun b o _ k=>hx.keeps b o k) (fun o k=>by rw [hx.new] at k; cases k) (I1.hok.none_of hx.new) oe hE
end
theorem raiseDok {P:Program} {w:World} {K:PySem.W.Frag} {mg:Str->Option Value} {base:Heap} {N:List Str} {qual:Str} {scope:Scope} {f:Addr} {cd:Value} {A:Around} {outer:List Env} {s:Shared} {H:Hp} {E:XK} :
    RaiseD (cxD P w K mg base N qual scope f cd A outer s H E) E:=fun pins σ H0 H1 s0 s1 hx e C t dv I0 g0 I hk he1 hH oe hE=>by
  refine raiseD I hk he1 ?_ hH oe hE
  cases q:s.heap.get? e with
  | none=>rfl
  | some o=>
    obtain ⟨o',z⟩:=I0.base.there e o q (fun z=>absurd (show e ∈ ([]:List Addr) from z) (by simp))
    rw [g0] at z; cases z
theorem Fun.okD {P:Program} {w:World} {K:PySem.W.Frag} {mg:Str->Option Value} {base:Heap} {x qual:Str} {st:Stmt} {f:Addr} {fd:FuncData} {N ps:List Str} {k:Nat} {sp:Sp} (F:Fun K x qual st f fd) (S:FnScope N ps (defScope st)) (len:∀ vs H Q E,sp vs H Q E->vs.length=ps.length)
    (hbody:∀ (cdv:Value) (A:Around) (outer:List Env) (s:Shared) (H:Hp) (vs:List V) (Q:VK) (E:XK),Room k (A.deeper (envOfC qual (defScope st) s.heap.objs.size f cdv))->sp vs H Q E ->
      ∃ t,PSs (cxD P w K mg base N qual (defScope st) f cdv A outer s H E) (defBody st) t/\t { nx:=fun _ H'=>Q .non H',rt:=Q } (start N vs) H):FnOk P w K mg base (CXD P w) (k + 1) f fd ps sp:=by
  obtain ⟨oc,od,kV,doc,pm,an,cdv,ct,osl,rfl,lk,hcd⟩:=F.ex
  exact fn_of lk hcd S len fun A outer s H vs Q E hr hsp=>hbody cdv A outer s H vs Q E hr hsp
end L2
namespace L2
open PySem PySem.Spec PyProof.Rows PySem.W PySem.Builtin.Getset_descriptor
def IsXD (x C:Addr) (dv:Option Addr) (h:Heap):Prop:=∃ ox vs,h.get? x=some ox/\ox.cls=.ref C/\ox.dict=dv/\ox.data=.fields vs/\vs[2]?=some .none
theorem IsXD.x {x C:Addr} {dv:Option Addr} {h:Heap} (I:IsXD x C dv h):IsX x C h:=let ⟨ox,_,a,b,_⟩:=I; ⟨ox,a,b⟩
theorem extD_ok {P:Program} {w:World} {H:Hp} {h:Heap} {a C:Addr} {dv:Option Addr} (I:IsXD a C dv h):ObjOk P w H h a (.ext (IsXD a C dv)):=
  ⟨I,(let ⟨o,_,e,_⟩:=I; ⟨o,e⟩),fun h1 h2 ⟨o,vs,e,c⟩ k=>⟨o,vs,k o e,c⟩⟩
section
variable {prog:Program} {w:World} {A:Around} {E:Value->Shared->Prop} {h:Heap} {g:Array GenState} {d:Drawn} {t:Nat} {os:OsState} {K:Frag} {x C dx:Addr} {name:Str} {v:Value} {m:Str->Option Value}
end
section
variable {X:Cx}
end
section
variable {X:Cx} {pins:List (Addr × Obj)} {σ:St} {H H':Hp} {s s':Shared} {a C:Addr}
theorem handleD {cn n:Str} {i:Nat} {CC:Addr} {a0:Value} {B:Heap} {dv:Option Addr} {np hpos:Pos} {b₀:Stmt} {suite:List Stmt} {ts:TS} {D:Ends} (hN:X.N.Nodup) (hi:X.N[i]?=some n) (hk:X.env.scope.names.lookup n=some .local) (hex:∀ b,b ∉ X.ex)
    (hst:X.stack=X.env :: X.outer) (hfr:X.env.frame=some X.env.locals) (hg:Gl X cn) (hm:X.mg cn=some (.ref CC)) (hx:exmOne X.K (.ref C) (.ref CC)=some true) (I:Inv X pins σ H s) (F:Fly X.prog X.w X.stack H H' s s' a (.ref C) a0 B) (dd:∃ o',s'.heap.get? a=some o'/\o'.dict=dv/\fld2 o'=some .none)
    (hsuite:PSs (suiteCx X a) (b₀ :: suite) ts) (q:ts { nx:=fun σ2 H2=>D.nx (σ2.set i none) H2,rt:=fun _ _=>False } (σ.set i (some (.ref a))) (upd H' a (.ext (IsXD a C dv)))) (hdb:(cn == ("__debug__" : Str))=false:=by decide) :
    wpAny (model X.prog X.w) X.A (noteFrame (.ref a) X.env) (fun _ s₂=>wpAny (model X.prog X.w) X.A (setFlight (.ref a) none) (fun _ s₃=>wpAny (model X.prog X.w) X.A (handleBy (.ref a) X.env [.ExceptHandler (some (.Name cn np)) (some n) (b₀ :: suite) hpos]) (SP X pins D) X.xe s₃) X.xe s₂) X.xe s':=by
  have hcls:(X.env.scope.kind == .class || (X.env.scope.kind == .module && X.env.locals != X.env.globals))=false:=by rw [I.ok.kind]; rfl
  have fl0:=F.fl
  rw [hst] at fl0
  refine look_dict (by rw [<- hst]; exact I.ok.frames) hfr fl0 dd fun h4 held4 d4 sm4=>?_
  refine flight_dict (s:={ s' with heap:=h4 }) held4.1 held4.2.1 held4.2.2.1 held4.2.2.2 d4 fun h5 fl5 d5 sm5=>?_
  obtain ⟨n1,n2⟩:=F.new
  have I5:Inv X pins σ H' { s' with heap:=h5 }:=F.inv I fl5.1 (sm4.trans sm5)
  obtain ⟨ob,hob,hobc⟩:=fl5.there
  have LT:Looks (model X.prog X.w) h5 (typeOf (.ref a)) (.ref C):=IsX.type ⟨ob,hob,hobc⟩
  refine wpAny_handleBy_cons (codeAny_handlers_test (ld_glob (X:=suiteCx X a) (I5.suite a) hg hm ?_ hdb)) (by intro z; cases z)
  refine (exm_one (h:=h5) I5.kIn LT hx).at ?_
  refine codeAny_handlers_suite_as ?_
  refine flight_dict (s:={ s' with heap:=h5 }) fl5.1 fl5.2.1 fl5.2.2.1 fl5.2.2.2.at d5 fun h6 fl6 d6 sm6=>?_
  have I6:Inv X pins σ H' { s' with heap:=h6 }:=F.inv I fl6.1 ((sm4.trans sm5).trans sm6)
  obtain ⟨ob6,vs6,hob6,hobc6,hod6,_⟩:=fl6.first
  obtain ⟨o',ho',hd',hf'⟩:=d6
  rw [hob6] at ho'
  cases ho'
  have I7:Inv X pins σ (upd H' a (.ext (IsXD a C dv))) { s' with heap:=h6 }:=Inv.track I hex n1 I6 n2 (extD_ok ⟨ob6,vs6,hob6,hobc6,hd',hod6,by unfold fld2 at hf'; rw [hod6] at hf'; exact hf'⟩)
  refine store_ok (X:=suiteCx X a) (v:=.ref a) (I7.suite a) hN hi (.inl hk) rfl (fun s8 I8=>?_) (.inr hk)
  refine wpAny_mono (hsuite pins s8 _ _ _ I8 q) (fun f s9 h9=>?_) fun _ _ z=>z.elim
  cases f with
  | next=>
    obtain ⟨σ9,H9,I9,q9⟩:=h9
    have I9':=I9.unsuite I.ok
    obtain ⟨m,hn,hl⟩:=id I9'.loc
    exact wpAny_nameGoes_keeps hk hn hcls fun h10 v hn' hs'=>⟨_,_,I9'.forget hN hi hl hn' hs',q9⟩
  | brk=>obtain ⟨_,_,_,z⟩:=h9; exact z.elim
  | cont=>obtain ⟨_,_,_,z⟩:=h9; exact z.elim
  | ret u=>obtain ⟨_,_,_,_,_,z⟩:=h9; exact z.elim
end
end L2
namespace L2
open PySem PySem.Spec PyProof.Rows
section
variable {X:Cx}
theorem call_xG {CX:CXT} {f:Addr} {fd:FuncData} {k:Nat} {ps:List Str} {sp:Sp} {g:Str} {p cpos:Pos} {e:Expr} {es:List Expr} {ta:TA} {pins:List (Addr × Obj)} {σ:St} {H:Hp} {s:Shared} {E1:Value->Shared->Prop} {Qv:VK} {Ex:XK}
    (F:FnOk X.prog X.w X.K X.mg X.base CX k f fd ps sp) (hr:Room k X.A) (hm:X.mg g=some (.ref f)) (hkp:PySem.W.keepIn X.K (.ref f)=true) (hb:Binds X.K fd ps []) (ha:PA X.nox (e :: es) ta) (hg:Gl X g)
    (I:Inv X pins σ H s) (h:ta σ H fun vs H1=>sp vs H1 Qv Ex) (hE:∀ H1 s1 v s',Inv X pins σ H1 s1->CX X.stack H1 s1 Ex v s'->E1 v s')
    (hdb:(g == ("__debug__" : Str))=false) (he:starEach (e :: es) X.env=(false,eval e X.env) :: starEach es X.env) (hpl:(backTo cpos (starEach es X.env)).any (·.1)=false) :
    wpAny (model X.prog X.w) X.A (eval (.Call (.Name g p) (e :: es) [] cpos) X.env) (EP X pins σ Qv) E1 s:=by
  refine wpAny_Call_Name_kw (ld_glob I hg hm ?_ hdb)
  refine PySem.W.callWith_K (h₀:=X.base) I.ok.mod.kin hkp (wpAny_mono (ha cpos pins s σ H _ (I.wish _) h) (fun us s1 ⟨vs,H1,I1,r,q⟩=>⟨I1.unwish.kIn,?_⟩) fun _ _ z=>z.elim) he hpl
  have I1':=I1.unwish
  have hl:us.length=ps.length:=by rw [<- r.length]; exact F.len _ _ _ _ q
  have hb':=hb s1 us I1'.kIn (by rw [List.append_nil]; exact hl)
  rw [List.append_nil] at hb'
  refine wpAny_call (codeAny_mono (F.run X.A X.stack s1 H1 ⟨us,[]⟩ us vs Qv Ex hr I1'.env0 hb' r q) fun rr s' hq=>?_)
  cases rr with
  | error v=>exact hE H1 s1 v s' I1' hq
  | ok fl=>
    cases fl with
    | ret u=>exact I1'.after hq
    | next=>exact False.elim hq
    | brk=>exact False.elim hq
    | cont=>exact False.elim hq
end
section
variable {X:Cx}
theorem call_isxD (K:PySem.W.Frag) (hK:X.K=K:=by rfl):CallR X (.builtin "isinstance") (fun xs H Q=>∃ (a C:Addr) (dv:Option Addr) (c:V) (cv:Value) (b:Bool),xs=[.ref a,c]/\clsV c=some cv/\H a=some (.ext (IsXD a C dv))/\XCls K C/\PySem.W.kitOne K (.ref C) cv=some b/\Q (.bl b) H):=by
  subst hK
  intro pins s σ H xs us Q I r h
  obtain ⟨a,C,dv,c,cv,b,rfl,hc,ha,F,e,q⟩:=h
  obtain ⟨u,w',rfl,r1,r2⟩:=vals2 r
  cases r1
  rw [clsV_rel hc r2]
  exact PySem.W.kia_one (kitx_exc F) I.kIn (I.hok a _ ha).1.x e (fun z=>nomatch z) fun tk=>⟨.bl b,H,I.tok tk,rfl,q⟩
end
end L2
namespace L2
open PySem PySem.Spec PyProof.Rows
section
variable {X:Cx}
end
end L2
namespace L2
open PySem PySem.Spec PyProof.Rows PySem.W PySem.Builtin.Getset_descriptor
section
variable {X:Cx} {pins:List (Addr × Obj)} {σ:St} {H H':Hp} {s s':Shared} {a C:Addr}
end
section
variable {X:Cx}
end
end L2
namespace L2
open PySem PySem.Spec PyProof.Rows PySem.SeqAt
theorem entry_unchain:entryFor table "proto.unchain" = some Builtin.«proto.unchain»:=entryFor_of_fast (by kernel_rfl)
def Alone (x:Addr) (h:Heap):Prop:=∃ o vs,h.get? x=some o/\o.data=.fields vs/\vs[2]?=some Value.none
theorem Alone.at {x:Addr} {h h':Heap} (a:Alone x h) (k:∀ o,h.get? x=some o->h'.get? x=some o):Alone x h':=let ⟨o,vs,e,r⟩:=a; ⟨o,vs,k o e,r⟩
theorem IsXD.alone {x C:Addr} {dv:Option Addr} {h:Heap} (I:IsXD x C dv h):Alone x h:=let ⟨ox,vs,a,_,_,b,c⟩:=I; ⟨ox,vs,a,b,c⟩
section
variable {prog:Program} {w:World} {A:Around} {E:Value->Shared->Prop} {s:Shared}
theorem raiseNew_alone {α:Type} {e x:Addr} {oe:Obj} {es:Array Value} {Q:α->Shared->Prop} (hh:A.handled=some (.ref x)) (hx:Alone x s.heap) (ne:x ≠ e) (he:s.heap.get? e=some oe) (hd:oe.data=.fields es) (h2:2 < es.size)
    (hE:E (.ref e) { s with heap:=s.heap.update e (Obj.mapFields (·.setIfInBounds 2 (.ref x))) }):wpAny (model prog w) A (raiseNew (α:=α) (.ref e)) Q E s:=by
  obtain ⟨ox,vs,e1,e2,e3⟩:=hx
  unfold raiseNew
  refine wpAny_bind (wpAny_handled ?_)
  rw [hh]
  have hb:(Value.ref x != Value.ref e)=true:=by simp [ne]
  dsimp only
  rw [if_pos hb]
  refine wpAny_bind (wpAny_holding (wpAny_runValue (codeAny_builtin entry_unchain ?_)))
  unfold Builtin.«proto.unchain»
  refine wpAny_bind (wpAny_field e1 e2 e3 ?_)
  rw [if_pos (by decide)]
  refine wpAny_bind (wpAny_pure ?_)
  refine wpAny_pure ?_
  refine wpAny_bind (wpAny_setField he hd h2 ?_)
  exact wpAny_throw hE
theorem pyNext_endH {it l x:Addr} {i:Nat} {items} {Q:Option Value->Shared->Prop} (hh:A.handled=some (.ref x)) (hal:Alone x s.heap) (nx:x ≠ it)
    (hit:s.heap.IsListIter it l i) (hl:s.heap.IsList l items) (hx:items[i]?=none)
    (hQ:∀ h',Heap.ExtBut it s.heap h'->Q none { s with heap:=h' }):wpAny (model prog w) A (pyNext (.ref it)) Q E s:=by
  obtain ⟨o,ho,hc,hd⟩:=id hit
  obtain ⟨ol,hol,_,nl,hdl⟩:=hl
  unfold pyNext
  refine wpAny_bind (wpAny_attempt (wpAny_callSpecial?_slot (name:=Str.ofString "__next__") hit.typeIs slot_listiter_next
    (wpAny_call_entry slot_listiter_next hit.typeIs entry_listiter_next ?_ (args_listiter_next _))))
  show wpAny _ _ (field (.ref it) 0 >>= _) _ _ s
  refine wpAny_bind (wpAny_field ho hd (x:=.ref l) rfl ?_)
  show wpAny _ _ (if (Value.ref l == Value.none)=true then _ else _) _ _ s
  rw [if_neg (show ¬ ((Value.ref l == Value.none)=true) from Bool.false_ne_true)]
  show wpAny _ _ (field (.ref it) 1 >>= _) _ _ s
  refine wpAny_bind (wpAny_field ho hd (x:=.int i 0) rfl ?_)
  show wpAny _ _ (seqItems? (.ref l) >>= _) _ _ s
  refine wpAny_bind (wpAny_seqItems hol hdl ?_)
  simp only [Int.toNat_natCast,hx]
  refine wpAny_bind (wpAny_rule (wpAny_bind (wpAny_setField ho hd (by simp) ?_)))
  show wpAny _ _ (newExc (.type "StopIteration") [] >>= _) _ _ _
  refine wpAny_bind ?_
  simp only [newExc,newTuple]
  refine wpAny_bind (wpAny_newObj_type ?_ (by size_fits))
  refine wpAny_bind (m:=firstArgMember _ _) (wpAny_of_eq (a:=Value.none) (by first | rfl | (simp only [firstArgMember]; rfl)) ?_)
  refine wpAny_newObj_type ?_ (by size_fits)
  obtain ⟨g,eg⟩:∃ g,(s.heap.update it (Obj.mapFields (·.setIfInBounds 0 Value.none)))=g:=⟨_,rfl⟩
  have kg:Heap.ExtBut it s.heap g:=eg ▸ (Heap.SameBut.update ..).extBut
  rw [eg]
  have lt:x < g.objs.size:=by
    obtain ⟨ox,_,e1,_⟩:=hal
    exact Heap.lt_size (kg x ox nx e1)
  refine raiseNew_alone (x:=x) (A:=A.in1) hh (hal.at fun o e=>Heap.get?_push_of_some _ (Heap.get?_push_of_some _ (kg x o nx e))) ?_ (Heap.get?_push_size _ rfl) rfl (by simp; omega) ?_
  · rw [Heap.size_push]; exact Nat.ne_of_lt (Nat.lt_succ_of_lt lt)
  refine wpAny_bind (wpAny_isInstance (T := "StopIteration") (b:=true) ⟨_,Heap.get?_update_self _ (Heap.get?_push_size _ rfl) rfl,rfl⟩ isSubtype_stop ?_)
  refine wpAny_pure (hQ _ fun b o nb e=>?_)
  have e2:=kg b o nb e
  rw [Heap.get?_update_other _ _ (by rw [Heap.size_push]; exact (Nat.ne_of_lt (Nat.lt_succ_of_lt (Heap.lt_size e2))).symm)]
  exact Heap.get?_push_of_some _ (Heap.get?_push_of_some _ e2)
theorem walksH {x:Addr} (hh:A.handled=some (.ref x)) (I ax:Addr) (hne:ax ≠ I) (nx:x ≠ I) (items:Array Value) :
    Walks prog w A I [I,ax,x] [I] items.size (fun i v=>items[i]?=some v) (fun i h=>(h.IsListIter I ax i/\h.IsList ax items)/\Alone x h) where
  sub:=fun b hb=>by simp at hb; simp [hb]
  frame:=fun _ _ _ st hk=>⟨⟨st.1.1.at fun o e=>hk I (by simp) o e,st.1.2.at fun o e=>hk ax (by simp) o e⟩,st.2.at fun o e=>hk x (by simp) o e⟩
  item:=fun i s Q E hi st hQ=>by
    refine wpAny_pyNext_list_item st.1.1 st.1.2 (x:=items[i]) (by simp [hi]) fun h' hit' hs'=>?_
    exact hQ _ h' s.toks (by simp [hi]) ⟨⟨hit',st.1.2.extBut hs'.extBut hne⟩,st.2.at fun o e=>hs'.extBut x o nx e⟩ fun b o hb e=>hs'.extBut b o (fun h=>hb (by simp [h])) e
  done:=fun s Q E st hQ=>pyNext_endH hh st.2 nx st.1.1 st.1.2 (by simp) fun h' he'=>hQ h' s.toks fun b o hb e=>he' b o (fun h=>hb (by simp [h])) e
  self:=fun _ _ _ _ st hQ=>wpAny_pyIter_listiter st.1.1 hQ
end
section
variable {X:Cx}
theorem call_anyH (e:Addr) (hh:X.A.handled=some (.ref e)):CallR X (.builtin "any") (fun xs H Q=>∃ (a C:Addr) (dv:Option Addr) (bs:List Bool),xs=[.ref a]/\SqK X.K false H a (bs.map V.bl)/\H e=some (.ext (IsXD e C dv))/\Q (.bl (bs.any id)) H):=by
  intro pins s σ H xs us Q I r h
  obtain ⟨a,C,dv,bs,rfl,hq,he,q⟩:=h
  obtain ⟨u,rfl,r1⟩:=vals1 r
  cases r1
  obtain ⟨its,rv,p,_⟩:=I.seqK hq
  have ix:IsXD e C dv s.heap:=(I.hok e _ he).1
  obtain ⟨w1,w2,w3⟩:=iterObj_walk p
  have hl:=rv.length
  rw [List.length_map] at hl
  have al:=ix.alone
  have nx:e ≠ s.heap.objs.size:=by
    obtain ⟨ox,_,e1,_⟩:=al
    exact Nat.ne_of_lt (Heap.lt_size e1)
  refine call_any_walkS (pyIter_seq p ⟨_,_,_,_,_,_,_,fun j=>bs.getD j false,rfl,(walksH (A:=X.A.in1) hh _ a w1 nx its.toArray).toS,⟨w2,al.at fun o k=>Heap.get?_push_of_some _ k⟩,fun i v s' Q' E' hv hQ=>?_,fun s' m=>?_⟩)
  · rw [bools_get rv i v hv]
    exact wpAny_truthy_bool hQ
  · refine ⟨.bl (bs.any id),H,I.movedNew m,?_,q⟩
    show Value.bool _=_
    rw [List.size_toArray,<- hl,range_any]
theorem countB {bs:List Bool} {its:List Value} (r:Vals (bs.map V.bl) its):its.countP (isBoolOf true)=bs.countP id:=by
  induction bs generalizing its with
  | nil=>cases r; rfl
  | cons b bs ih=>
    cases r with
    | cons a r=>
      cases a
      rw [List.countP_cons,List.countP_cons,ih r]
      cases b <;> rfl
theorem eqB {bs:List Bool} {its:List Value} (r:Vals (bs.map V.bl) its):∀ y,y ∈ its->∀ (A:Around) (s:Shared),EqAt A s y (.bool true) (isBoolOf true y):=by
  induction bs generalizing its with
  | nil=>cases r; intro y hy; exact absurd hy (by simp)
  | cons b bs ih=>
    cases r with
    | cons a r=>
      cases a
      intro y hy A s
      rcases List.mem_cons.mp hy with e4 | hy
      · rw [e4]; exact EqAt.bool_bool b true
      · exact ih r y hy A s
def rCountB:V->List V->Hp->VK->Prop:=fun x vs H Q=>∃ (l:Addr) (bs:List Bool),x=.ref l/\vs=[.bl true]/\H l=some (.lst (bs.map V.bl))/\Q (.int (bs.countP id:Nat)) H
theorem mt_countB:MtR X "list.count" rCountB:=by
  intro pins s σ H x vs v us Q I rx rv h
  obtain ⟨l,bs,rfl,rfl,hH,q⟩:=h
  cases rx
  obtain ⟨u,rfl,ru⟩:=rv.one
  obtain rfl:u=Value.bool true:=ru
  obtain ⟨z,its,n,r,hl,e⟩:=I.lstM hH
  refine call_meets PySem.F.slot_list_count ⟨_,e,rfl⟩ PySem.F.entry_list_count (PySem.F.args_list_count_2 _ _) (list_countAt l its.toArray n none #[] (.bool true) (isBoolOf true)) ⟨e,fun y hy=>eqB r y (by simpa using hy) _ _,?_⟩
  rw [show its.toArray.toList=its from rfl,countB r]
  exact ⟨.int _,H,I.tok _,⟨_,rfl⟩,q⟩
def rIndexB:V->List V->Hp->VK->Prop:=fun x vs H Q=>∃ (l:Addr) (bs:List Bool) (j:Nat),x=.ref l/\vs=[.bl true]/\H l=some (.lst (bs.map V.bl))/\bs.length<=1000/\bs[j]?=some true/\(∀ m,m < j->bs[m]?=some false)/\Q (.int (j:Nat)) H
theorem mt_indexB:MtR X "list.index" rIndexB:=by
  intro pins s σ H x vs v us Q I rx rv h
  obtain ⟨l,bs,j,rfl,rfl,hH,hz,hj,hno,q⟩:=h
  cases rx
  obtain ⟨u,rfl,ru⟩:=rv.one
  obtain rfl:u=Value.bool true:=ru
  obtain ⟨z,its,n,r,hl,e⟩:=I.lstM hH
  rw [List.length_map] at hl
  have lj:j < bs.length:=(List.getElem?_eq_some_iff.mp hj).1
  have at':∀ m (hm:m < its.toArray.size) b,bs[m]?=some b->its.toArray[m]=Value.bool b:=fun m hm b hb=>by
    obtain ⟨u,hu,ru⟩:=r.get (show (bs.map V.bl)[m]?=some (V.bl b) by rw [List.getElem?_map,hb]; rfl)
    obtain rfl:u=Value.bool b:=ru
    have:its.toArray[m]?=some (Value.bool b):=by simpa using hu
    exact (Array.getElem?_eq_some_iff.mp this).2
  refine call_meets PySem.F.slot_list_index ⟨_,e,rfl⟩ PySem.F.entry_list_index (PySem.F.args_list_index_2 _ _)
    (list_indexAt l its.toArray n none #[] (.bool true) (isBoolOf true) j (by rw [List.size_toArray,<- hl]; exact lj) (by omega) ?_ ?_) ⟨e,fun y hy=>eqB r y (by simpa using hy) _ _,⟨.int _,H,I.tok _,⟨_,rfl⟩,q⟩⟩
  · rw [at' j _ true hj]; rfl
  · intro m hm hlt
    rw [at' m hm false (hno m hlt)]; rfl
def tTryDa (sp:Sp) (ta:TA) (i:Nat) (ok:Value->Addr->Prop) (ts:Addr->TS) (set:V->St->St):TS:=fun D σ H=>ta σ H fun vs H1=>sp vs H1 (fun v H2=>D.nx (set v σ) H2)
  (fun c dv H2=>∃ C,c=.ref C/\ok c C/\∀ a,H2 a=none->ts a { nx:=fun σ3 H3=>D.nx (σ3.set i none) H3,rt:=fun _ _=>False } (σ.set i (some (.ref a))) (upd H2 a (.ext (IsXD a C dv))))
theorem ps_tryEDa {f:Addr} {fd:FuncData} {k:Nat} {ps:List Str} {sp:Sp} {g cn n:Str} {i:Nat} {CC:Addr} {p cpos epos np hpos pos:Pos} {e:Expr} {es:List Expr} {ta:TA} {b₀:Stmt} {suite:List Stmt} {ts:Addr->TS}
    (F:FnOk X.prog X.w X.K X.mg X.base (CXD X.prog X.w) k f fd ps sp) (hr:Room k X.A) (hm:X.mg g=some (.ref f)) (hkp:PySem.W.keepIn X.K (.ref f)=true) (hb:Binds X.K fd ps []) (ha:PA X.nox (e :: es) ta)
    (hN:X.N.Nodup) (hi:X.N[i]?=some n) (hk:X.env.scope.names.lookup n=some .local) (hsuite:∀ a,PSs (suiteCx X a) (b₀ :: suite) (ts a)) (hcm:X.mg cn=some (.ref CC))
    (hg:Gl X g:=by rfl) (hgc:Gl X cn:=by rfl) (hex:∀ b,b ∉ X.ex:=by intro b z; exact absurd (show b ∈ ([]:List Addr) from z) (by simp)) (hst:X.stack=X.env :: X.outer:=by rfl) (hfr:X.env.frame=some X.env.locals:=by rfl)
    (hdb:(g == ("__debug__" : Str))=false:=by decide) (hdbc:(cn == ("__debug__" : Str))=false:=by decide) (he:starEach (e :: es) X.env=(false,eval e X.env) :: starEach es X.env:=by rfl) (hpl:(backTo cpos (starEach es X.env)).any (·.1)=false:=by rfl)
    (hsw:swapsWith (.Call (.Name g p) (e :: es) [] cpos) none epos.line X.env=pure false:=by rfl) :
    PS X (.Try [.Expr (.Call (.Name g p) (e :: es) [] cpos) epos] [.ExceptHandler (some (.Name cn np)) (some n) (b₀ :: suite) hpos] [] [] pos) (tTryDa sp ta i (fun c _=>PySem.W.exmOne X.K c (.ref CC)=some true) ts (fun _ σ=>σ)):=by
  intro pins s σ H D I h
  refine wpAny_Try_except (wpAny_execs_cons (wpAny_Expr_any (thn (call_xG F hr hm hkp hb ha hg I h ?_ hdb he hpl) fun v s1 ⟨x,H1,I1,r1,q1⟩=>wpAny_execs_nil (wpAny_execs_nil ⟨σ,H1,I1,q1⟩)) I.quiet hsw))
  intro H1 s1 v s' I1 hx
  obtain ⟨a,cls,a0,dv,H',B,rfl,Fl,dd,C,rfl,hok,q⟩:=hx
  exact handleD hN hi hk hex hst hfr hgc hcm hok I1 Fl dd (hsuite a) (q a Fl.new.2) hdbc
end
end L2
namespace L2
open PySem PySem.Spec PyProof.Rows
section
variable {X:Cx}
def rCatT0 (K:PySem.W.Frag):R2:=fun x y H Q=>∃ a b ys,x=.ref a/\y=.ref b/\SqT K H a []/\SqT K H b ys/\Q (.ref b) H
theorem op_catT0:OpR X (binaryOp .Add) (rCatT0 X.K):=by
  intro pins s σ H x y v u Q I rx ry h
  obtain ⟨a,b,ys,rfl,rfl,ha,hb,q⟩:=h
  cases rx
  cases ry
  obtain ⟨its,r1,p1,_⟩:=I.tuple ha
  obtain ⟨its2,r2,p2,_⟩:=I.tuple hb
  have e1:its=[]:=r1.nil_iff.mpr rfl
  subst e1
  obtain ⟨⟨cls,dd,data,sl⟩,ho,hc,n,hd⟩:=id p1
  obtain ⟨⟨cls2,dd2,data2,sl2⟩,ho2,hc2,n2,hd2⟩:=id p2
  simp only at hc hd hc2 hd2
  subst hc hd hc2 hd2
  exact concat_meets ⟨_,ho,rfl⟩ ⟨_,ho2,rfl⟩ noFill_tuple_add seq_tuple_add PySem.F.slot_tuple_add PySem.F.entry_tuple_add (PySem.F.args_tuple_add_2 _ _)
    (tuple_addW0 a b ([]:List Value).toArray its2.toArray n n2 dd dd2 sl sl2 (by simp)) ⟨ho,ho2,⟨.ref b,H,I,rfl,q⟩⟩
abbrev rCat2 (K:PySem.W.Frag):R2:=fun x y H Q=>rCatT K x y H Q\/rCatT0 K x y H Q
theorem op_cat2:OpR X (binaryOp .Add) (rCat2 X.K):=op_catT.or op_catT0
end
end L2
namespace L2
open PySem PySem.Spec PyProof.Rows
def PTs (X:Cx) (ifs:List Expr) (t:TT):Prop:=
  ∀ (pins:List (Addr × Obj)) (s:Shared) (σ:St) (H:Hp) (Q:Bool->Hp->Prop),Inv X pins σ H s->t σ H Q ->
    wpAny (model X.prog X.w) X.A (forIn ifs true fun c r=>if r=true then do let ok <- isTrue c X.env (eval c X.env); pure (ForInStep.yield ok) else pure (ForInStep.yield r)) (TP X pins σ Q) X.xe s
def tTrue:TT:=fun _ H Q=>Q true H
theorem pts_nil {X:Cx}:PTs X [] tTrue:=fun _ _ _ H _ I h=>wpAny_tests_nil ⟨H,I,h⟩
theorem pts_one {X:Cx} {c:Expr} {t:TT} (h:PT X c t):PTs X [c] t:=fun pins s σ H Q I q=>wpAny_tests_one (h pins s σ H Q I q)
def compBodyT (J:It) (cap:List (Option Nat)) (g:TG) (tt:TT) (te:TE) (σ:St) (H1:Hp) (Q:VK):Prop:=∀ acc,H1 acc=none ->
  ∃ W:Nat->Nat->List V->St->Hp->Prop,(∃ m,W 0 m [] (capOf cap σ) (upd H1 acc (.lst [])))/\∀ i m ys σ' H',W i m ys σ' H'->H' acc=some (.lst ys) /\
    ((J.stop i H'/\Q (.ref acc) H')\/(J.go i H'/\ys.length < sizeLine/\∀ x H2,J.yld i H' x H2->g x σ' H2 fun σ3 H3=>tt σ3 H3 fun b H4=>
      if b=true then te σ3 H4 fun y H5=>H5 acc=some (.lst ys)/\∃ m',m' < m/\W (i + 1) m' (ys ++ [y]) σ3 (upd H5 acc (.lst (ys ++ [y])))
      else ∃ m',m' < m/\W (i + 1) m' ys σ3 H4))
def tCompT (cap:List (Option Nat)) (wi:TI) (g:TG) (tt:TT) (te:TE):TE:=fun σ H Q=>wi σ H fun J H1=>compBodyT J cap g tt te σ H1 Q
section
variable {prog:Program} {w:World} {A:Around} {R:Result->Shared->Prop} {s:Shared}
theorem compLoop_anyT {elt target iter:Expr} {ifs:List Expr} {scope:Scope} {pos:Pos} {it acc:Value} {env:Env} (I:Nat->Shared->Prop)
    (turn:∀ n s,I n s->wpAny (model prog w) A (pyNext it) (fun r s₁=>match r with
      | none=>R (.ok .next) s₁
      | some v=>wpAny (model prog w) A (letOwnedTupleGo target it v) (fun _ s₁'=>wpAny (model prog w) A (assign target env v) (fun _ s₂=>
          wpAny (model prog w) A (forIn ifs true fun c r=>if r=true then do let ok <- isTrue c env (eval c env); pure (ForInStep.yield ok) else pure (ForInStep.yield r)) (fun ok s₃=>
            if ok=true then wpAny (model prog w) A (eval elt env) (fun x s₄=>
              wpAny (model prog w) A (call (.builtin "list.append") [acc,x]) (fun _ s₅=>∃ m,m < n/\I m s₅) (fun _ _=>False) s₄) (fun _ _=>False) s₃
            else ∃ m,m < n/\I m s₃) (fun _ _=>False) s₂)
          (fun _ _=>False) s₁') (fun _ _=>False) s₁) (fun _ _=>False) s)
    (n:Nat) (h:I n s):codeAny (model prog w) A (.compLoop (.ListComp elt [⟨target,iter,ifs,0⟩] scope pos) 0 it acc env) R s:=by
  refine codeAny_loop rfl I (fun n s hI=>?_) n h
  show wpAny _ A ((compTurn (.ListComp elt [⟨target,iter,ifs,0⟩] scope pos) 0 it acc env).onRaise (fun x=>do noteFrame x env; theTreesLotGoes x)) _ _ s
  refine wpAny_noted ?_
  rw [compTurn_list]
  refine wpAny_bind (wpAny_standAt (wpAny_bind (wpAny_mono (turn n s hI) (fun r s₁ h₁=>?_) fun _ _ h'=>h'.elim)))
  cases r with
  | none=>exact wpAny_pure h₁
  | some v=>
    refine wpAny_bind (wpAny_mono h₁ (fun _ s₁' h₁'=>?_) fun _ _ h'=>h'.elim)
    refine wpAny_bind (wpAny_mono h₁' (fun _ s₂ h₂=>wpAny_bind (wpAny_mono h₂ (fun ok s₃ h₃=>?_) fun _ _ h'=>h'.elim)) fun _ _ h'=>h'.elim)
    cases ok with
    | true=>
      rw [if_pos rfl] at h₃
      exact wpAny_bind (wpAny_bind (wpAny_mono h₃ (fun x s₄ h₄=>wpAny_bind (wpAny_mono h₄ (fun _ s₅ h₅=>wpAny_pure (wpAny_pure ⟨rfl,h₅⟩)) fun _ _ h'=>h'.elim)) fun _ _ h'=>h'.elim))
    | false=>
      rw [if_neg Bool.false_ne_true] at h₃
      exact wpAny_bind (wpAny_pure (wpAny_pure ⟨rfl,h₃⟩))
end
section
variable {X:Cx}
theorem comp_coreT {elt tg iter:Expr} {ifs:List Expr} {tt:TT} {pos:Pos} {N N':List Str} {sc scE:Scope} {cap:List (Option Nat)} {wi:TI} {g:TG} {te:TE} {use:Option (Value->Sem Unit)} {QQ:Value->Shared->Prop} (hcalm:X.calm=true) (hi:PI X tg iter wi)
    (hg:∀ cl C s0 H0 ex,PG (blkC X N' sc cl C s0 H0 ex) tg g) (he:∀ cl C s0 H0 ex,PE (blkC X N' sc cl C s0 H0 ex) elt te) (htt:∀ cl C s0 H0 ex,PTs (blkC X N' sc cl C s0 H0 ex) ifs tt)
    (hN:X.N=N) (hE:X.env.scope=scE) (hc:compOkC N N' sc scE cap=true) (hs:∀ x,foldedSetIterable iter X.env x=pure x)
    {pins:List (Addr × Obj)} {s:Shared} {σ:St} {H:Hp} {Q:VK} (I:Inv X pins σ H s) (h:tCompT cap wi g tt te σ H Q)
    (fin:∀ acc C H' s' m,Inv X pins σ H' s'->s'.heap.Ns C m->FpOk X pins H' C->Q (.ref acc) H'->compPost (model X.prog X.w) X.A X.xe use QQ (.ref acc) C (.ok .next) s') {pos':Pos} :
    wpAny (model X.prog X.w) X.A (comprehension (.ListComp elt [⟨tg,iter,ifs,0⟩] sc pos) sc X.env pos' (newList []) false (eval iter X.env) use) QQ X.xe s:=by
  have ck:=compOkC.of hc
  obtain ⟨cl,hcl,c1,c2⟩:=closure_of (scope:=sc) (env:=X.env) fun x hx hf=>I.ok.has x.1 (by
    have:=ck.fre x hx hf
    rw [<- hE] at this
    exact this)
  refine wpAny_comprehension_free (use:=use) rfl hs hcl ck.kind ck.loc (thn (hi pins s σ H _ I h) fun v s1 h1=>thn h1 fun itv s2 h2=>?_)
  obtain ⟨it,fp,tn,J,H2,e,I2,T,st2,f2,hw⟩:=h2
  subst e
  have fsz:∀ b ∈ fp,b < s2.heap.objs.size:=fun b hb=>by
    obtain ⟨o,e,_⟩:=T.obj _ _ st2 b hb
    exact Heap.lt_size e
  obtain ⟨W,⟨m0,w0⟩,turn⟩:=hw s2.heap.objs.size I2.fresh
  refine wpAny_newObj_type (wpAny_newEnvC ?_)
  dsimp only
  have I3:Inv X pins σ (upd H2 s2.heap.objs.size (.lst [])) { s2 with heap:=s2.heap.push { cls:=.type "list",data:=.seq ([]:List Value).toArray } }:=
    I2.lnew (its:=[]) (ys:=[]) (t':=s2.toks) .nil (Nat.zero_le _)
  generalize hs3:({ s2 with heap:=s2.heap.push { cls:=.type "list",data:=.seq ([]:List Value).toArray } }:Shared)=s3 at I3
  have hh3:s3.heap=s2.heap.push { cls:=.type "list",data:=.seq ([]:List Value).toArray }:=by rw [<- hs3]
  have hsz:s3.heap.objs.size=s2.heap.objs.size + 1:=by rw [hh3,Heap.size_push]
  have f3:∀ b ∈ fp,FpOk X pins (upd H2 s2.heap.objs.size (.lst [])) b:=fun b hb=>by
    obtain ⟨g0,g1⟩:=f2 b hb
    exact ⟨by rw [upd_ne (Nat.ne_of_lt (fsz b hb))]; exact g0,g1⟩
  have k3:∀ b o,s2.heap.get? b=some o->s3.heap.get? b=some o:=fun b o e=>by rw [hh3]; exact Heap.get?_push_of_some _ e
  obtain ⟨cl',hcl'⟩:∃ cl',cellsFrom (s3.heap.objs.size + 1) sc.names cl=cl':=⟨_,rfl⟩
  obtain ⟨h₁,hh₁⟩:∃ h₁,pushCells (s3.heap.push { cls:=.type "dict",data:=.dict #[] }) sc.names=h₁:=⟨_,rfl⟩
  have k1:∀ b o,s3.heap.get? b=some o->h₁.get? b=some o:=fun b o e=>by rw [<- hh₁]; exact pushCells_keeps _ _ b o (Heap.get?_push_of_some _ e)
  have c1':∀ x c,cl'.lookup x=some c->cl.lookup x=some c\/s3.heap.objs.size + 1<=c:=fun x c e=>by
    rw [<- hcl'] at e
    have:=cellsFrom_look (sc.names) (s3.heap.push { cls:=.type "dict",data:=.dict #[] }) cl x c (by rw [Heap.size_push]; exact e)
    rcases this with z | ⟨_,z,_⟩
    · exact .inl z
    · rw [Heap.size_push] at z; exact .inr z
  have I4:Inv (blkC X N' sc cl' s3.heap.objs.size s3 (upd H2 s2.heap.objs.size (.lst [])) fp) [] (capOf cap σ) (upd H2 s2.heap.objs.size (.lst [])) { s3 with heap:=h₁ }:=by
    rw [<- hcl',<- hh₁]
    exact blk_invC I3 hN hE ck c1 c2 f3 (fun b hb=>Nat.lt_of_lt_of_le (fsz b hb) (by rw [hsz]; exact Nat.le_succ _))
  have st4:tn 0 h₁:=T.keep _ _ _ st2 fun b hb o e=>k1 b o (k3 b o e)
  generalize hX':blkC X N' sc cl' s3.heap.objs.size s3 (upd H2 s2.heap.objs.size (.lst [])) fp=X' at I4
  have hxe:X'.xe=fun _ _=>False:=by rw [<- hX']; rfl
  have hprog:X'.prog=X.prog:=by rw [<- hX']; rfl
  have hww:X'.w=X.w:=by rw [<- hX']; rfl
  have hKK:X'.K=X.K:=by rw [<- hX']; rfl
  have hAA:X'.A=X.A:=by rw [<- hX']; rfl
  have hcc:X'.calm=true:=by rw [<- hX']; exact hcalm
  have henv:X'.env=compEnvC sc cl' s3.heap.objs.size X.env:=by rw [<- hX']; rfl
  have hloc:X'.env.locals=s3.heap.objs.size:=by rw [henv]; rfl
  have hg':PG X' tg g:=by rw [<- hX']; exact hg _ _ _ _ _
  have he':PE X' elt te:=by rw [<- hX']; exact he _ _ _ _ _
  have htt':PTs X' ifs tt:=by rw [<- hX']; exact htt _ _ _ _ _
  have stat:∀ {H':Hp},(∀ b ∈ fp,H' b=none)->∀ b ∈ fp,FpOk X' [] H' b:=fun {H'} hn b hb=>by
    obtain ⟨_,g1,g2,g3,g4,g5⟩:=f3 b hb
    refine ⟨hn b hb,by rw [hloc,hsz]; exact Nat.ne_of_lt (Nat.lt_succ_of_lt (fsz b hb)),?_,?_,?_,fun p hp=>?_⟩
    · rw [<- hX']
      intro z
      rcases List.mem_cons.mp (I3.stkSub b z) with e | z
      · exact g1 e
      · exact g2 z
    · left
      rw [<- hX']
      exact hb
    · intro x c e
      rw [henv] at e
      rcases c1' x c e with z | z
      · exact g4 x c (c1 x c z)
      · exact fun q=>absurd (Nat.lt_of_lt_of_le (fsz b hb) (Nat.le_trans (Nat.le_trans (Nat.le_succ _) (hsz ▸ Nat.le_succ _)) (q ▸ z))) (Nat.lt_irrefl _)
    · rw [<- hX'] at hp
      cases hp
  have fin':∀ {σ':St} {H':Hp} {s':Shared},Inv X' [] σ' H' s'->Q (.ref s2.heap.objs.size) H'->compPost (model X.prog X.w) X.A X.xe use QQ (.ref s2.heap.objs.size) s3.heap.objs.size (.ok .next) s':=fun {σ' H' s'} J q=>by
    obtain ⟨mm,hmm,_⟩:=J.loc
    rw [hloc] at hmm
    have hfree:H' s3.heap.objs.size=none:=by have:=J.free; rw [hloc] at this; exact this
    have hok:=J.hok
    rw [hprog,hww] at hok
    have u1:Un (frs X.stack) fp (upd H2 s2.heap.objs.size (.lst [])) H' s3.heap s'.heap:=by
      have:=J.base
      rw [<- hX'] at this
      exact this
    have hos:s'.os=s3.os:=by have:=J.os; rw [<- hX'] at this; exact this
    refine fin _ _ H' s' mm (I3.call' (s':=s') hos u1 hok J.bare fun b hb=>?_) hmm (I3.fpOk (Nat.le_refl _) hfree) q
    obtain ⟨_,g1,g2,g3,g4,g5⟩:=f3 b hb
    exact ⟨g3,g1,g4,g5⟩
  have loop:codeAny (model X.prog X.w) X.A (.compLoop (.ListComp elt [⟨tg,iter,ifs,0⟩] sc pos) 0 (.ref it) (.ref s2.heap.objs.size) X'.env)
      (compPost (model X.prog X.w) X.A X.xe use QQ (.ref s2.heap.objs.size) s3.heap.objs.size) { s3 with heap:=h₁ }:=by
    refine compLoop_anyT (fun n s'=>∃ i ys σ' H',Inv X' [] σ' H' s'/\tn i s'.heap/\(∀ b ∈ fp,H' b=none)/\W i n ys σ' H') ?_ m0 ⟨0,[],_,_,I4,st4,fun b hb=>(f3 b hb).1,w0⟩
    rintro n s5 ⟨i,ys,σ5,H5,I5,st5,fr5,w5⟩
    obtain ⟨hacc,q⟩:=turn i n ys σ5 H5 w5
    rcases q with ⟨stop,q⟩ | ⟨go,hlen,step⟩
    · refine thn (hAA ▸ T.done X' hprog hww hKK hcc i [] s5 σ5 H5 _ I5 (stat fr5) st5 stop) fun r s6 ⟨hr,I6⟩=>?_
      subst hr
      exact fin' I6 q
    · refine thn (hAA ▸ T.item X' hprog hww hKK hcc i [] s5 σ5 H5 _ I5 (stat fr5) st5 go) fun r s6 ⟨u,hr,h6⟩=>?_
      subst hr
      refine thn h6 fun _ s7 ⟨x,H7,I7,r7,y7,st7,fr7⟩=>?_
      have I7':=I7.pinned (stat fr7) (T.obj _ _ st7)
      have g7:=hg' _ s7 σ5 H7 x u _ I7' r7 (step x H7 y7)
      rw [hprog,hww,hAA,hxe] at g7
      refine thn g7 fun _ s8 ⟨σ8,H8,I8,q8⟩=>?_
      have t8:=htt' _ s8 σ8 H8 _ I8 q8
      rw [hprog,hww,hAA,hxe] at t8
      refine thn t8 fun okb s8t ⟨H8t,I8t,q8t⟩=>?_
      cases okb with
      | false=>
        rw [if_neg Bool.false_ne_true] at q8t ⊢
        obtain ⟨m',hm',w9⟩:=q8t
        refine ⟨m',hm',i + 1,_,σ8,_,I8t.unpinned,T.keep _ _ _ st7 fun b hb o eo=>(I8t.pin (b,o) (List.mem_append_right _ (List.mem_append_right _ (mem_pinsAt hb eo)))).1,fun b hb=>?_,w9⟩
        obtain ⟨o,eo,d⟩:=T.obj _ _ st7 b hb
        exact (I8t.pin (b,o) (List.mem_append_right _ (List.mem_append_right _ (mem_pinsAt hb eo)))).2.1
      | true=>
      rw [if_pos rfl] at q8t ⊢
      have g8:=he' _ s8t σ8 H8t _ I8t q8t
      rw [hprog,hww,hAA,hxe] at g8
      refine thn g8 fun y s9 ⟨yv,H9,I9,r9,a9,m',hm',w9⟩=>?_
      obtain ⟨z,its,nn,rr,hl,e⟩:=I9.lstM a9
      refine call_meets F.slot_list_append ⟨_,e,rfl⟩ F.entry_list_append (F.args_list_append_2 _ _) (PySem.list_append _ its.toArray nn y (by rw [List.size_toArray]; omega)) ⟨e,?_⟩
      have I10:Inv X' ([] ++ pinsAt fp s7.heap) σ8 (upd H9 s2.heap.objs.size (.lst (ys ++ [yv]))) { s9 with heap:=s9.heap.update s2.heap.objs.size (Obj.mapSeq fun a=>a.push y) }:=
        I9.lset (t':=s9.toks) (its':=its ++ [y]) a9 e (by simp) (rr.append (.cons r9 .nil)) (by rw [List.length_append,List.length_singleton]; omega)
      refine ⟨m',hm',i + 1,_,σ8,_,I10.unpinned,T.keep _ _ _ st7 fun b hb o eo=>(I10.pin (b,o) (List.mem_append_right _ (List.mem_append_right _ (mem_pinsAt hb eo)))).1,fun b hb=>?_,w9⟩
      obtain ⟨o,eo,d⟩:=T.obj _ _ st7 b hb
      exact (I10.pin (b,o) (List.mem_append_right _ (List.mem_append_right _ (mem_pinsAt hb eo)))).2.1
  rw [henv] at loop
  have goal:=codeAny_compStart_list (rest:=[]) (ifs:=ifs) loop (T.self X.A 0 _ _ _ st4 loop)
  subst hs3
  rw [<- hcl',<- hh₁] at goal
  exact goal
theorem pe_compT {elt tg iter:Expr} {ifs:List Expr} {tt:TT} {pos:Pos} {N N':List Str} {sc scE:Scope} {cap:List (Option Nat)} {wi:TI} {g:TG} {te:TE} (hcalm:X.calm=true) (hi:PI X tg iter wi)
    (hg:∀ cl C s0 H0 ex,PG (blkC X N' sc cl C s0 H0 ex) tg g) (he:∀ cl C s0 H0 ex,PE (blkC X N' sc cl C s0 H0 ex) elt te) (htt:∀ cl C s0 H0 ex,PTs (blkC X N' sc cl C s0 H0 ex) ifs tt)
    (hN:X.N=N:=by rfl) (hE:X.env.scope=scE:=by rfl) (hc:compOkC N N' sc scE cap=true:=by decide +kernel) (hs:∀ x,foldedSetIterable iter X.env x=pure x:=by intro _; rfl) :
    PE X (.ListComp elt [⟨tg,iter,ifs,0⟩] sc pos) (tCompT cap wi g tt te):=by
  intro pins s σ H Q I h
  rw [eval_ListComp]
  refine comp_coreT (use:=none) hcalm hi hg he htt hN hE hc hs I h fun acc C H' s' m I' hm hf q=>⟨m,hm,fun h' hs'=>?_⟩
  obtain ⟨f0,f1,f2,f3,f4,f5⟩:=hf
  exact ⟨.ref acc,H',I'.turned (t':=s'.toks) (fun b o hb e=>(hs'.2 b hb).trans e) f0 f1 f3 f4 f5,rfl,q⟩
theorem ps_compT {ifs:List Expr} {tt:TT} {i:Nat} {x:Str} {px spos:Pos} {elt tg iter:Expr} {pos:Pos} {N N':List Str} {sc scE:Scope} {cap:List (Option Nat)} {wi:TI} {g:TG} {te:TE} (hnd:X.N.Nodup) (hix:X.N[i]?=some x) (hx:Loc X.env.scope x) (hcalm:X.calm=true) (hi:PI X tg iter wi)
    (hg:∀ cl C s0 H0 ex,PG (blkC X N' sc cl C s0 H0 ex) tg g) (he:∀ cl C s0 H0 ex,PE (blkC X N' sc cl C s0 H0 ex) elt te) (htt:∀ cl C s0 H0 ex,PTs (blkC X N' sc cl C s0 H0 ex) ifs tt)
    (hsw:swapsWith (.ListComp elt [⟨tg,iter,ifs,0⟩] sc pos) (some (.Name x px)) spos.line X.env=pure true:=by rfl)
    (hN:X.N=N:=by rfl) (hE:X.env.scope=scE:=by rfl) (hc:compOkC N N' sc scE cap=true:=by decide +kernel) (hs:∀ x,foldedSetIterable iter X.env x=pure x:=by intro _; rfl)
    (hf:X.fn x=true\/X.env.scope.names.lookup x=some .local:=by first | exact .inl rfl | exact .inr rfl | assumption) :
    PS X (.Assign [.Name x px] (.ListComp elt [⟨tg,iter,ifs,0⟩] sc pos) spos) (tAsg (tCompT cap wi g tt te) (gName i)):=by
  intro pins s σ H D I h
  rw [exec_Assign_Name_used _ _ _ _ hsw]
  refine wpAny_bind (wpAny_standAt (wpAny_bind ?_))
  show wpAny _ _ (do let _ <- comprehension (.ListComp elt [⟨tg,iter,ifs,0⟩] sc pos) sc X.env _ (newList []) false (eval iter X.env) (some (assign (.Name x px) X.env))) _ _ s
  refine wpAny_bind (wpAny_mono (comp_coreT (use:=some (assign (.Name x px) X.env)) (QQ:=fun _ s'=>SP X pins D .next s') hcalm hi hg he htt hN hE hc hs I h ?_) (fun _ s' hq=>wpAny_pure (wpAny_pure hq)) fun _ _ e=>e)
  intro acc C H' s' m I' hm hfp q
  obtain ⟨f0,f1,f2,f3,f4,f5⟩:=hfp
  show wpAny _ _ (assign (.Name x px) X.env (.ref acc)) _ _ _
  refine wpAny_assign_Name (store_ok2 I' hnd hix hx (v:=.ref acc) rfl (fun s2 I2 ⟨a,sb,ha⟩=>⟨m,?_,fun h' hs'=>?_⟩) hf)
  · refine hm.sameBut sb fun z=>?_
    rcases ha with ha | ha
    · exact f1 (z.trans ha)
    · exact f4 x a ha z.symm
  · exact ⟨_,H',I2.turned (t':=s2.toks) (fun b o hb e=>(hs'.2 b hb).trans e) f0 f1 f3 f4 f5,q⟩
end
end L2
namespace L2
open PySem PySem.Spec PyProof.Rows
theorem fm_congr {α β:Type} {f g:α->Option β}:∀ {l:List α},(∀ x ∈ l,f x=g x)->l.filterMap f=l.filterMap g
  | [],_=>rfl
  | x :: l,h=>by
    rw [List.filterMap_cons,List.filterMap_cons,h x List.mem_cons_self,fm_congr fun y hy=>h y (List.mem_cons_of_mem _ hy)]
theorem pick_down (its:List Value):∀ k,k<=its.length->((List.range k).filterMap fun (m:Nat)=>its[its.length - 1 - m]?)=(its.reverse.take k)
  | 0,_=>by simp
  | k + 1,h=>by
    have ih:=pick_down its k (by omega)
    rw [List.range_succ,List.filterMap_append,ih]
    have e:its[its.length - 1 - k]?=some its[its.length - 1 - k]:=List.getElem?_eq_getElem (by omega)
    rw [List.take_add_one]
    congr 1
    rw [List.getElem?_reverse (by omega),e]
    simp [e]
section
variable {X:Cx} {e e3:Expr} {te t3:TE} {pos p2:Pos}
end
end L2
namespace L2
open PySem PySem.Spec PyProof.Rows
def tLR (ta:TA):TE:=fun σ H Q=>ta σ H fun vs H1=>∃ n:Nat,vs=[.int (n:Int)]/\n<=1000000/\∀ p,H1 p=none->Q (.ref p) (upd H1 p (.lst ((List.range n).map fun (k:Nat)=>V.int (k:Int))))
theorem vals_range {its:List Value} {n:Nat} (hl:its.length=n) (h:∀ (j:Nat) (v:Value),its[j]?=some v->∃ t,v=Value.int (j:Int) t):Vals ((List.range n).map fun (k:Nat)=>V.int (k:Int)) its:=by
  induction n generalizing its with
  | zero=>
    have:its=[]:=List.eq_nil_of_length_eq_zero hl
    subst this
    exact .nil
  | succ n ih=>
    rcases List.eq_nil_or_concat its with rfl | ⟨pre,v,rfl⟩
    · simp at hl
    · rw [List.concat_eq_append] at hl h ⊢
      have hp:pre.length=n:=by simp at hl; exact hl
      rw [List.range_succ,List.map_append]
      refine (ih hp fun j u hu=>h j u ?_).append ?_
      · rw [List.getElem?_append_left (List.getElem?_eq_some_iff.mp hu).1]; exact hu
      · obtain ⟨t,rfl⟩:=h n v (by rw [List.getElem?_append_right (by omega),hp]; simp)
        exact .cons ⟨t,rfl⟩ .nil
section
variable {X:Cx} {a:Expr} {ta:TA} {p p' pos pos':Pos}
theorem pe_listRange (hc:X.calm=true) (hg:Gl X "list") (hm:X.mg "list" = none) (hg':Gl X "range") (hm':X.mg "range" = none) (hb:bootBuiltins "list" = some (.type "list")) (ha:PA X [a] ta) (hs:starEach [a] X.env=[(false,eval a X.env)]:=by rfl)
    (hs2:starEach [.Call (.Name "range" p') [a] [] pos'] X.env=[(false,eval (.Call (.Name "range" p') [a] [] pos') X.env)]:=by rfl) :
    PE X (.Call (.Name "list" p) [.Call (.Name "range" p') [a] [] pos'] [] pos) (tLR ta):=by
  intro pins s σ H Q I h
  refine wpAny_Call_Name_kw (ld_blt I hg hm hb ?_ (by decide) (by decide))
  refine PyProof.Rows.callWith_type1 ?_ hs2 rfl
  rw [hs2]
  refine Calls.spliced_cons ?_
  refine Call_ (ld_blt I hg' hm' boot_range (PyProof.Rows.callWith_type1 (thn (ha pos' pins s σ H _ I h) fun us s1 ⟨vs,H1,I1,r1,q1⟩=>?_) hs rfl))
  obtain ⟨n,rfl,hn,q⟩:=q1
  cases r1 with
  | cons r rr=>
    cases rr
    obtain ⟨t,rfl⟩:=r
    refine call_range_1 ?_
    refine Calls.spliced_nil ?_
    have I2:Inv X pins σ H1 { s1 with heap:=s1.heap.push { cls:=.type "range",data:=.fields #[.int 0 s1.toks,.int (n:Int) t,.int 1 (s1.toks + 1)] },toks:=s1.toks + 1 + 1 }:=I1.kept (t':=s1.toks + 1 + 1) fun b ob q=>Heap.get?_push_of_some _ q
    refine call_list_range (n:=n) (I1.ok.hd hc) (IsRange.new ..) ?_ ?_ (by omega) fun h' tk acc' c' hk hS hacc=>?_
    · have hr:Builtin.Range.rangeSize 0 (n:Int) 1=n:=by
        unfold Builtin.Range.rangeSize
        rw [if_pos (by omega)]
        split <;> omega
      have hf:∀ m:Nat,m<=1000000->Builtin.Range.rangeFitsLong (m:Int)=true:=fun m hm=>by
        unfold Builtin.Range.rangeFitsLong
        simp
        omega
      unfold Builtin.Range.small
      simp [hr,hf n hn,show Builtin.Range.rangeFitsLong 0=true from hf 0 (by omega),show Builtin.Range.rangeFitsLong 1=true from hf 1 (by omega)]
    · unfold Builtin.Range.rangeSize
      rw [if_pos (by omega)]
      split <;> omega
    · have hv:Vals ((List.range n).map fun (k:Nat)=>V.int (k:Int)) acc'.toList:=vals_range (by rw [Array.length_toList]; exact hacc.1) fun j v hj=>by
        obtain ⟨t,rfl⟩:=hacc.2 j v (by simpa using hj)
        exact ⟨t,by simp⟩
      refine ⟨.ref _,_,I2.laid (t':=tk) (o:=.lst ((List.range n).map fun (k:Nat)=>V.int (k:Int))) hk (Nat.le_refl _) ?_,rfl,q _ (I2.hok.fresh (Nat.le_refl _))⟩
      exact ⟨by rw [List.length_map,List.length_range]; exact Nat.le_trans hn (by decide),acc'.toList,c',hv,by simpa using hS⟩
end
end L2
namespace L2
open PySem PySem.Spec PyProof.Rows
def metN (ns:List Int):List Int:=firstMet (fun i=>ns.getD i 0) ns.length
section
variable {X:Cx}
end
end L2
namespace L2
open PySem PySem.Spec PyProof.Rows
section
variable {κ:Type} [DecidableEq κ]
def valV (kvs:List (κ × V)) (k:κ):Option V:=(kvs.find? fun kv=>decide (kv.1=k)).map (·.2)
def putK (kvs:List (κ × V)) (k:κ) (v:V):List (κ × V):=
  if (kvs.any fun kv=>decide (kv.1=k))=true then kvs.map (fun kv=>if kv.1=k then (kv.1,v) else kv) else kvs ++ [(k,v)]
def dropK (kvs:List (κ × V)) (k:κ):List (κ × V):=kvs.filter fun kv=>decide (kv.1 ≠ k)
theorem valV_pos {p:κ × V} {r:List (κ × V)} {k:κ} (e:p.1=k):valV (p :: r) k=some p.2:=by simp [valV,List.find?_cons,e]
theorem valV_neg {p:κ × V} {r:List (κ × V)} {k:κ} (e:¬ p.1=k):valV (p :: r) k=valV r k:=by simp [valV,List.find?_cons,e]
theorem valV_any (k:κ):∀ kvs:List (κ × V),(kvs.any fun kv=>decide (kv.1=k))=(valV kvs k).isSome
  | []=>rfl
  | p :: r=>by
    rw [List.any_cons]
    by_cases e:p.1=k
    · simp only [valV_pos e,decide_eq_true e,Bool.true_or,Option.isSome_some]
    · rw [valV_neg e,decide_eq_false e,Bool.false_or]; exact valV_any k r
end
abbrev KT (H:Hp):List (List Key × V)->List (List Key × Addr × Value)->Prop:=Paired fun p q=>p.1=q.1/\H q.2.1=some (.tup (p.1.map kV))/\RelV p.2 q.2.2
section
variable {P:Program} {w:World} {H:Hp} {h:Heap} {a:Addr}
end
def DGet (H:Hp) (a:Addr) (y:V) (r:Option V):Prop:=
  (∃ kvs k,Rd H a (.dK kvs)/\y=kV k/\r=valV kvs k)\/∃ kvs k b,Rd H a (.dT kvs)/\y=.ref b/\H b=some (.tup (k.map kV))/\r=valV kvs k
def DPut (H:Hp) (a:Addr) (y v:V) (H':Hp):Prop:=
  (∃ kvs k,H a=some (.dK kvs)/\y=kV k/\kvs.length < sizeLine/\H'=upd H a (.dK (putK kvs k v))) \/
  ∃ kvs k b,H a=some (.dT kvs)/\y=.ref b/\H b=some (.tup (k.map kV))/\kvs.length < sizeLine/\H'=upd H a (.dT (putK kvs k v))
section
variable {X:Cx} {pins:List (Addr × Obj)} {σ:St} {H:Hp} {s:Shared} {a:Addr} {y v:V} {u r:Value} {o:Option V} {A:Around} {E:Value->Shared->Prop}
end
section
variable {X:Cx} {pins:List (Addr × Obj)} {σ:St} {H:Hp} {s:Shared} {a:Addr} {kvs:List (Key × V)} {k:Key} {u:Value} {A:Around} {E:Value->Shared->Prop}
end
section
variable {X:Cx} {o i e value:Expr} {pos pos' tpos:Pos} {td ty tv:TE}
end
section
variable {X:Cx} {pos:Pos}
end
section
variable {X:Cx} {pins:List (Addr × Obj)} {σ:St} {H:Hp} {s:Shared} {a:Addr} {y d:V} {u r:Value} {o:Option V} {A:Around} {E:Value->Shared->Prop}
end
section
variable {X:Cx} {o e f:Expr} {apos cpos:Pos} {td ty tx:TE}
end
section
variable {X:Cx} {pins:List (Addr × Obj)} {σ:St} {H:Hp} {s:Shared} {a:Addr} {kvs:List (Key × V)} {A:Around} {E:Value->Shared->Prop}
end
section
variable {X:Cx} {pins:List (Addr × Obj)} {σ:St} {H:Hp} {s:Shared} {a:Addr} {y:V} {u:Value} {A:Around} {E:Value->Shared->Prop}
end
section
variable {X:Cx}
end
end L2
namespace L2
open PySem PySem.Spec PyProof.Rows
open AutoSeq1 (wpAny_loadPart')
section
variable {prog:Program} {w:World} {A:Around} {E:Value->Shared->Prop} {s:Shared}
theorem code_collect_range {R:Result->Shared->Prop} {r:Addr} {a b c:Int} {t u v:Tok} {n:Nat} (hh:A.handled=none) (hr:IsRange s.heap r a b c t u v) (hsmall:Builtin.Range.small a b c=true)
    (hn:Builtin.Range.rangeSize a b c=n) (hlen:n<=2 ^ 24)
    (hR:∀ h' tk acc' c',(∀ b o,s.heap.get? b=some o->h'.get? b=some o)->h'.get? s.heap.objs.size=some { cls:=.type "list",dict:=none,data:=.seq acc' c',slots:=#[] }->ItemsOf (fun i v=>∃ t,v=.int (a + i * c) t) acc' n->R (.ok (.ret (.ref s.heap.objs.size))) { s with heap:=h',toks:=tk }) :
    codeAny (model prog w) A (.builtin "proto.collect" ⟨[.ref r],[]⟩) R s:=by
  refine codeAny_builtin F.entry_proto_collect ?_
  rw [Around.under_plainId F.plain_proto_collect _]
  show wpAny _ A.in1 (newList [] >>= fun l=>again (.builtin "list.__iadd__" ⟨[l,.ref r],[]⟩)) _ _ s
  refine wpAny_bind (wpAny_newObj_type ?_)
  refine wpAny_pure ⟨plainId_quiet F.plain_list_iadd _,codeAny_builtin F.entry_list_iadd ?_⟩
  rw [Around.under_plainId F.plain_list_iadd _]
  have hS:(s.heap.push { cls:=.type "list",data:=.seq ([]:List Value).toArray }).get? s.heap.objs.size=some { cls:=.type "list",data:=.seq ([]:List Value).toArray }:=Heap.get?_push_size _ rfl
  exact wpAny_extend_range (A:=A) (R:=R) (s:={ s with heap:=s.heap.push { cls:=.type "list",data:=.seq ([]:List Value).toArray } }) (c₀:=0) hh (Heap.get?_push_of_some _ hr) hsmall hn hlen s.heap.objs.size (.ref s.heap.objs.size) (hS:=hS) fun h' tk acc' c' hk hS' hacc=>hR h' tk acc' c' (fun b o e=>hk b o (Nat.ne_of_lt (Heap.lt_size e)) (Heap.get?_push_of_some _ e)) hS' hacc
theorem collect_range {Q:List Value->Shared->Prop} {r:Addr} {a b c:Int} {t u v:Tok} {n:Nat} (hh:A.handled=none) (hr:IsRange s.heap r a b c t u v) (hsmall:Builtin.Range.small a b c=true)
    (hn:Builtin.Range.rangeSize a b c=n) (hlen:n<=2 ^ 24)
    (hQ:∀ (s':Shared) (acc:Array Value),(∀ b o,s.heap.get? b=some o->s'.heap.get? b=some o)->s'.gens=s.gens->s'.drawn=s.drawn->s'.os=s.os->ItemsOf (fun i v=>∃ t,v=.int (a + i * c) t) acc n->Q acc.toList s') :
    wpAny (model prog w) A (collect (.ref r)) Q E s:=by
  unfold collect
  refine wpAny_bind (wpAny_runValue (code_collect_range hh hr hsmall hn hlen fun h' tk acc' c' hk hS' hacc=>?_))
  show wpAny _ A (load s.heap.objs.size >>= _) _ _ _
  refine wpAny_bind (wpAny_load hS' ?_)
  exact wpAny_pure (hQ _ acc' hk rfl rfl rfl hacc)
end
theorem meets_tuple_range {r:Addr} {a b c:Int} {t u v:Tok} {n:Nat} (hsmall:Builtin.Range.small a b c=true) (hn:Builtin.Range.rangeSize a b c=n) (hlen:n<=2 ^ 24) :
    Meets (Builtin.«tuple.__new__» ⟨[.type "tuple",.ref r],[]⟩)
      (fun A R s=>A.handled=none/\IsRange s.heap r a b c t u v/\∀ (s':Shared) (acc:Array Value),(∀ b o,s.heap.get? b=some o->s'.heap.get? b=some o)->s'.gens=s.gens->s'.drawn=s.drawn->s'.os=s.os->ItemsOf (fun i v=>∃ t,v=.int (a + i * c) t) acc n ->
        R (.ok (.ret (.ref s'.heap.objs.size))) { s' with heap:=s'.heap.push { cls:=.type "tuple",data:=.seq acc } }):=
  .of_wp fun prog w A R s h=>by
    obtain ⟨hh,hr,h⟩:=h
    have hsub:=sub_tuple_self
    have hinit:=init_tuple_lookup
    have hmh:=madeHere_tuple
    have hT:s.TypeIs (.ref r) "range" := ⟨_,hr,rfl⟩
    have hh1:A.in1.handled=none:=hh
    wp_walk using wpAny_typeOf hT,collect_range hh1 hr hsmall hn hlen
    intro s' acc hk hg hd hos hacc
    show wpAny _ _ (Builtin.Tuple.tupleExact acc.toList.toArray >>= fun v=>ret v) _ _ _
    unfold Builtin.Tuple.tupleExact
    have hsz:acc.toList.toArray.size<=sizeLine:=by simp only [Array.toArray_toList]; rw [hacc.1,sizeLine_eq]; omega
    refine wpAny_bind (wpAny_newObj_type ?_ hsz)
    refine wpAny_pure ⟨_,rfl,?_⟩
    have e:acc.toList.toArray=acc:=by simp
    rw [e]
    exact h s' acc hk hg hd hos hacc
section
variable {prog:Program} {w:World} {A:Around} {E:Value->Shared->Prop} {s:Shared}
theorem call_tuple_range {Q:Value->Shared->Prop} {r:Addr} {a b c:Int} {t u v:Tok} {n:Nat} (hh:A.handled=none) (hr:IsRange s.heap r a b c t u v) (hsmall:Builtin.Range.small a b c=true) (hn:Builtin.Range.rangeSize a b c=n) (hlen:n<=2 ^ 24)
    (h:∀ (h':Heap) (tk:Nat) (acc:Array Value),(∀ b o,s.heap.get? b=some o->h'.get? b=some o)->ItemsOf (fun i v=>∃ t,v=.int (a + i * c) t) acc n->Q (.ref h'.objs.size) { s with heap:=h'.push { cls:=.type "tuple",data:=.seq acc },toks:=tk }) :
    wpAny (model prog w) A (call (.type "tuple") [.ref r]) Q E s:=by
  refine callType_new F.called_tuple (by decide) (F.typeCall_tuple_1 _) (F.newCall_tuple_1 _) (fun obj=>F.args_object_init_2 obj _) F.entry_tuple_new
    (meets_tuple_range (t:=t) (u:=u) (v:=v) hsmall hn hlen) ⟨hh,hr,fun s' acc hk hg hd hos hacc=>⟨⟨_,Heap.get?_push_size _ rfl,rfl⟩,?_⟩⟩
  obtain ⟨h',g',d',tk',os'⟩:=s'
  have e1:g'=s.gens:=hg
  have e2:d'=s.drawn:=hd
  have e3:os'=s.os:=hos
  subst e1 e2 e3
  exact h h' tk' acc hk hacc
end
def tTR (ta:TA):TE:=fun σ H Q=>ta σ H fun vs H1=>∃ n:Nat,vs=[.int (n:Int)]/\n<=1000000/\∀ p,H1 p=none->Q (.ref p) (upd H1 p (.tup ((List.range n).map fun (k:Nat)=>V.int (k:Int))))
section
variable {X:Cx} {a:Expr} {ta:TA} {p p' pos pos':Pos}
theorem pe_tupRange (hc:X.calm=true) (hg:Gl X "tuple") (hm:X.mg "tuple" = none) (hg':Gl X "range") (hm':X.mg "range" = none) (hb:bootBuiltins "tuple" = some (.type "tuple")) (ha:PA X [a] ta) (hs:starEach [a] X.env=[(false,eval a X.env)]:=by rfl)
    (hs2:starEach [.Call (.Name "range" p') [a] [] pos'] X.env=[(false,eval (.Call (.Name "range" p') [a] [] pos') X.env)]:=by rfl) :
    PE X (.Call (.Name "tuple" p) [.Call (.Name "range" p') [a] [] pos'] [] pos) (tTR ta):=by
  intro pins s σ H Q I h
  refine wpAny_Call_Name_kw (ld_blt I hg hm hb ?_ (by decide) (by decide))
  refine PyProof.Rows.callWith_type1 ?_ hs2 rfl
  rw [hs2]
  refine Calls.spliced_cons ?_
  refine Call_ (ld_blt I hg' hm' boot_range (PyProof.Rows.callWith_type1 (thn (ha pos' pins s σ H _ I h) fun us s1 ⟨vs,H1,I1,r1,q1⟩=>?_) hs rfl))
  obtain ⟨n,rfl,hn,q⟩:=q1
  cases r1 with
  | cons r rr=>
    cases rr
    obtain ⟨t,rfl⟩:=r
    refine call_range_1 ?_
    refine Calls.spliced_nil ?_
    have I2:Inv X pins σ H1 { s1 with heap:=s1.heap.push { cls:=.type "range",data:=.fields #[.int 0 s1.toks,.int (n:Int) t,.int 1 (s1.toks + 1)] },toks:=s1.toks + 1 + 1 }:=I1.kept (t':=s1.toks + 1 + 1) fun b ob q=>Heap.get?_push_of_some _ q
    refine call_tuple_range (n:=n) (I1.ok.hd hc) (IsRange.new ..) ?_ ?_ (by omega) fun h' tk acc' hk hacc=>?_
    · have hr:Builtin.Range.rangeSize 0 (n:Int) 1=n:=by
        unfold Builtin.Range.rangeSize
        rw [if_pos (by omega)]
        split <;> omega
      have hf:∀ m:Nat,m<=1000000->Builtin.Range.rangeFitsLong (m:Int)=true:=fun m hm=>by
        unfold Builtin.Range.rangeFitsLong
        simp
        omega
      unfold Builtin.Range.small
      simp [hr,hf n hn,show Builtin.Range.rangeFitsLong 0=true from hf 0 (by omega),show Builtin.Range.rangeFitsLong 1=true from hf 1 (by omega)]
    · unfold Builtin.Range.rangeSize
      rw [if_pos (by omega)]
      split <;> omega
    · have hv:Vals ((List.range n).map fun (k:Nat)=>V.int (k:Int)) acc'.toList:=vals_range (by rw [Array.length_toList]; exact hacc.1) fun j v hj=>by
        obtain ⟨t,rfl⟩:=hacc.2 j v (by simpa using hj)
        exact ⟨t,by simp⟩
      have I3:=I2.kept (t':=tk) (h':=h') hk
      refine ⟨.ref _,_,I3.laid (t':=tk) (o:=.tup ((List.range n).map fun (k:Nat)=>V.int (k:Int))) (fun b o e=>Heap.get?_push_of_some _ e) (Nat.le_refl _) ?_,rfl,q _ (I3.hok.fresh (Nat.le_refl _))⟩
      exact ⟨by rw [List.length_map,List.length_range]; exact Nat.le_trans hn (by decide),acc'.toList,hv,by
        have e:acc'.toList.toArray=acc':=by simp
        rw [e]
        exact IsTup.new _ _⟩
end
end L2
namespace L2
open PySem PySem.Spec PyProof.Rows
section
variable {prog:Program} {w:World} {A:Around} {E:Value->Shared->Prop} {s:Shared}
theorem adjust_rev (n:Nat):Builtin.Slice.sliceAdjust none none (-1) (n:Int)=((n:Int) - 1,-1):=by
  unfold Builtin.Slice.sliceAdjust
  simp
theorem places_rev (n:Nat):Builtin.Slice.slicePlaces ((n:Int) - 1) (-1) (-1)=n:=by
  unfold Builtin.Slice.slicePlaces
  rw [if_neg (by omega)]
  split
  · rw [show (- -1:Int)=1 from rfl,Int.ediv_one]; omega
  · omega
theorem sliceApplied_rev {sl:Addr} {n:Nat} {t:Tok} {Q:Int × Int × Nat->Shared->Prop} (hs:s.heap.IsSliceOf sl .none .none (.int (-1) t)) (h:Q ((n:Int) - 1,-1,n) s) :
    wpAny (model prog w) A (Builtin.Slice.sliceApplied (.ref sl) (pure (n:Int))) Q E s:=by
  obtain ⟨os,hos,hcs,hds⟩:=id hs
  unfold Builtin.Slice.sliceApplied Builtin.Slice.sliceFields
  refine wpAny_bind (wpAny_bind (wpAny_field hos hds (x:=.none) rfl (wpAny_bind (wpAny_field hos hds (x:=.none) rfl (wpAny_bind (wpAny_field hos hds (x:=.int (-1) t) rfl (wpAny_pure ?_)))))))
  refine wpAny_bind (slicePart_int ?_)
  show wpAny _ _ (if ((-1:Int) == 0)=true then _ else _) _ _ s
  rw [if_neg (by decide)]
  refine wpAny_bind (slicePart_none (wpAny_bind (slicePart_none (wpAny_bind (wpAny_pure ?_)))))
  show wpAny _ _ (match Builtin.Slice.sliceAdjust none none (-1) (n:Int) with | (lo,hi)=>pure (lo,(-1:Int),Builtin.Slice.slicePlaces lo hi (-1))) _ _ s
  rw [adjust_rev n]
  show wpAny _ _ (pure ((n:Int) - 1,(-1:Int),Builtin.Slice.slicePlaces ((n:Int) - 1) (-1) (-1))) _ _ s
  rw [places_rev n]
  exact wpAny_pure h
theorem pick_rev (its:List Value):((List.range its.toArray.size).filterMap fun (k:Nat)=>its.toArray[((its.toArray.size:Int) - 1 + (k:Int) * -1).toNat]?).toArray=its.reverse.toArray:=by
  congr 1
  have:=pick_down its its.length (Nat.le_refl _)
  rw [show its.reverse.take its.length=its.reverse from List.take_of_length_le (by simp)] at this
  rw [<- this,List.size_toArray]
  refine fm_congr fun m hm=>?_
  have hm':=List.mem_range.mp hm
  rw [List.getElem?_toArray]
  congr 1
  omega
theorem getItem_tuple_rev {t sl:Addr} {its:List Value} {u:Tok} {Q:Value->Shared->Prop} (ht:IsTup s.heap t its.toArray) (hs:s.heap.IsSliceOf sl .none .none (.int (-1) u))
    (h:Q (.ref s.heap.objs.size) { s with heap:=s.heap.push { cls:=.type "tuple",data:=.seq its.reverse.toArray } })
    (hsz:its.toArray.size<=sizeLine):wpAny (model prog w) A (getItem (.ref t) (.ref sl)) Q E s:=by
  have hdrop:sizeOk (.seq its.reverse.toArray):=by
    show its.reverse.toArray.size<=sizeLine
    rw [List.size_toArray,List.length_reverse]
    rw [List.size_toArray] at hsz
    exact hsz
  obtain ⟨os,hos,hcs,hds⟩:=id hs
  have hTs:s.TypeIs (.ref sl) "slice" := ⟨os,hos,hcs⟩
  unfold getItem
  try with_reducible refine wpAny_holding ?_
  first | refine wpAny_bind (wpAny_pure ?_) | skip
  refine wpAny_bind (wpAny_sequenceKey ht.typeIs (by decide) ?_)
  refine wpAny_bind (wpAny_callSpecial?_slot (name:=Str.ofString "__getitem__") ht.typeIs slot_tuple_getitem
    (wpAny_call_entry slot_tuple_getitem ht.typeIs entry_tuple_getitem ?_ (args_tuple_getitem _ _)))
  show wpAny _ _ (Builtin.Tuple.tupleItemsOf (.ref t) >>= _) _ _ s
  refine wpAny_bind (tupleItemsOf_ ht ?_)
  refine wpAny_bind (wpAny_typeOf hTs ?_)
  rw [if_pos (by decide)]
  refine wpAny_bind (sliceApplied_rev hs ?_)
  have hno:¬ ((((its.toArray.size:Int) - 1) == 0 && (-1:Int) == 1 && its.toArray.size == its.toArray.size)=true):=by
    have:((-1:Int) == 1)=false:=by decide
    rw [this]; simp
  show wpAny _ _ (if (((its.toArray.size:Int) - 1) == 0 && (-1:Int) == 1 && its.toArray.size == its.toArray.size)=true then _ else _) _ _ s
  rw [if_neg hno,pick_rev its]
  first
    | exact wpAny_bind (m:=Builtin.Tuple.tupleExact _) (wpAny_newObj_type (wpAny_pure ⟨_,rfl,wpAny_pure h⟩) hdrop)
    | exact wpAny_bind (m:=Builtin.Tuple.tupleExact _) (wpAny_newObj_type (wpAny_bind (wpAny_pure (wpAny_pure ⟨_,rfl,wpAny_pure h⟩))) hdrop)
    | exact wpAny_bind (wpAny_bind (m:=Builtin.Tuple.tupleExact _) (wpAny_newObj_type (wpAny_pure (wpAny_pure ⟨_,rfl,wpAny_pure h⟩)) hdrop))
    | exact wpAny_bind (wpAny_bind (m:=Builtin.Tuple.tupleExact _) (wpAny_newObj_type (wpAny_pure ⟨_,rfl,wpAny_pure h⟩) hdrop))
end
section
variable {X:Cx} {e e3:Expr} {te t3:TE} {pos p2:Pos}
def tRevT (K:PySem.W.Frag) (te t3:TE):TE:=fun σ H Q=>te σ H fun x H1=>t3 σ H1 fun y H2=>y=.int (-1)/\∃ a xs,x=.ref a/\SqT K H2 a xs/\∀ p,H2 p=none->Q (.ref p) (upd H2 p (.tup xs.reverse))
theorem pe_revT (he:PE X e te) (h3:PE X e3 t3):PE X (.Subscript e (.Slice none none (some e3) p2) pos) (tRevT X.K te t3):=by
  intro pins s σ H Q I h
  refine Subscript_ (thn (he pins s σ H _ I h) fun v s1 ⟨x,H1,I1,r1,q1⟩=>?_)
  refine wpAny_Slice ?_
  rw [evalPart_none]
  refine wpAny_pure (wpAny_pure ?_)
  rw [evalPart_some]
  refine thn (h3 pins s1 σ H1 _ I1 q1) fun vs s2 ⟨y,H2,I2,r2,q2⟩=>?_
  obtain ⟨rfl,a,xs,rfl,hx,q⟩:=q2
  obtain ⟨t,rfl⟩:=r2
  cases r1
  have I4:Inv X pins σ H2 { s2 with heap:=s2.heap.push { cls:=.type "slice",data:=.fields #[.none,.none,.int (-1) t] } }:=I2.kept (t':=s2.toks) fun b ob q=>Heap.get?_push_of_some _ q
  have hs:({ s2 with heap:=s2.heap.push { cls:=.type "slice",data:=.fields #[.none,.none,.int (-1) t] } }:Shared).heap.IsSliceOf s2.heap.objs.size .none .none (.int (-1) t):=Heap.IsSliceOf.new ..
  obtain ⟨its,r,ht,hz⟩:=I4.tuple hx
  have hlen:=r.length
  show wpAny (model X.prog X.w) X.A (subscriptTail e (.Slice none none (some e3) p2) (.ref a) (.ref s2.heap.objs.size)) (EP X pins σ Q) X.xe { s2 with heap:=s2.heap.push { cls:=.type "slice",data:=.fields #[.none,.none,.int (-1) t] } }
  refine tail_any (ops:=[.ref a,.ref s2.heap.objs.size]) ht.typeIs slot_tuple_getitem.lookup ?_ (by with_unfolding_all rfl)
  refine getItem_tuple_rev ht hs ?_ (by rw [List.size_toArray] <;> omega)
  refine ⟨.ref _,_,I4.laid (t':=s2.toks) (o:=.tup xs.reverse) (fun b ob q=>Heap.get?_push_of_some _ q) (Nat.le_refl _) ?_,rfl,q _ (I4.hok.fresh (Nat.le_refl _))⟩
  exact ⟨by rw [List.length_reverse]; exact hz,_,r.reverse,IsTup.new _ _⟩
end
end L2
namespace Sm
open PySem PySem.Spec L2
inductive PV where
  | non | bl (b:Bool) | int (i:Int) | str (x:Str) | tup (xs:List PV) | lst (xs:List PV) | fro (xs:List PV) | ref (i:Nat) | dic
inductive Cell where
  | lst (xs:List PV)
abbrev Store:=List Cell
structure Exc where
  cls:Str
  fs:Option (Str × PV):=none
inductive Res (α:Type) where
  | ok (a:α) (st:Store) | exc (x:Exc) (st:Store) | stuck
abbrev Gam:=List (Option PV)
abbrev ME:=Gam->Store->Res PV
structure Tk where
  tr:List Addr
  hid:List Addr
instance:Membership Addr Tk:=⟨fun t a=>a ∈ t.tr\/a ∈ t.hid⟩
def Tk.nil:Tk:=⟨[],[]⟩
theorem Tk.not_nil (a:Addr):a ∉ Tk.nil:=fun z=>by rcases z with z | z <;> cases z
def Tk.add (t:Tk) (p:Addr):Tk:=⟨t.tr ++ [p],t.hid⟩
def Tk.hide (t:Tk) (p:Addr):Tk:=⟨t.tr,p :: t.hid⟩
mutual
def Rep (H:Hp) (ρ:Tk):PV->V->Prop
  | .non,v=>v=.non
  | .bl b,v=>v=.bl b
  | .int i,v=>v=.int i
  | .str x,v=>v=.str x
  | .tup ps,v=>∃ a vs,v=.ref a/\H a=some (.tup vs)/\a ∉ ρ/\RepL H ρ ps vs
  | .lst ps,v=>∃ a vs,v=.ref a/\H a=some (.lst vs)/\a ∉ ρ/\RepL H ρ ps vs
  | .fro ps,v=>∃ a vs,v=.ref a/\Rd H a (.lst vs)/\a ∉ ρ/\RepL H ρ ps vs
  | .ref i,v=>∃ a,ρ.tr[i]?=some a/\v=.ref a
  | .dic,v=>∃ a,v=.ref a/\H a=some (.dK [])/\a ∉ ρ
def RepL (H:Hp) (ρ:Tk):List PV->List V->Prop
  | [],vs=>vs=[]
  | p :: ps,vs=>∃ v r,vs=v :: r/\Rep H ρ p v/\RepL H ρ ps r
end
structure Ext (H:Hp) (ρ:Tk) (H':Hp) (ρ':Tk):Prop where
  pre:ρ.tr <+: ρ'.tr
  hidM:∀ a,a ∈ ρ.hid->a ∈ ρ'.hid
  hidN:∀ a,a ∈ ρ'.hid->a ∈ ρ.hid\/H a=none
  keep:∀ a o,H a=some o->a ∉ ρ.tr->H' a=some o
  new:∀ a,a ∈ ρ'.tr->a ∈ ρ.tr\/H a=none
  old:∀ a o,H a=some o->∃ o',H' a=some o'
theorem Ext.refl (H:Hp) (ρ:Tk):Ext H ρ H ρ:=⟨List.prefix_refl _,fun _ h=>h,fun _ h=>.inl h,fun _ _ h _=>h,fun _ h=>.inl h,fun _ o h=>⟨o,h⟩⟩
theorem Ext.trans {H H1 H2:Hp} {ρ ρ1 ρ2:Tk} (a:Ext H ρ H1 ρ1) (b:Ext H1 ρ1 H2 ρ2):Ext H ρ H2 ρ2 where
  pre:=a.pre.trans b.pre
  hidM:=fun x h=>b.hidM x (a.hidM x h)
  hidN:=fun x h=>by
    rcases b.hidN x h with z | z
    · exact a.hidN x z
    · right
      cases q:H x with
      | none=>rfl
      | some o=>
        obtain ⟨o',e⟩:=a.old x o q
        rw [e] at z; cases z
  keep:=fun x o h n=>b.keep x o (a.keep x o h n) fun z=>by
    rcases a.new x z with z | z
    · exact n z
    · rw [h] at z; cases z
  new:=fun x h=>by
    rcases b.new x h with z | z
    · exact a.new x z
    · right
      cases q:H x with
      | none=>rfl
      | some o=>
        obtain ⟨o',e⟩:=a.old x o q
        rw [e] at z; cases z
  old:=fun x o h=>by
    obtain ⟨o',e⟩:=a.old x o h
    exact b.old x o' e
theorem Ext.add {H:Hp} {ρ:Tk} {p:Addr} {o:HO} (h:H p=none):Ext H ρ (upd H p o) ρ where
  pre:=List.prefix_refl _
  hidM:=fun _ h=>h
  hidN:=fun _ h=>.inl h
  keep:=fun a u e _=>by rw [upd_ne (ne_of_none e h)]; exact e
  new:=fun a e=>.inl e
  old:=fun a u e=>⟨u,by rw [upd_ne (ne_of_none e h)]; exact e⟩
theorem Ext.same {H H':Hp} {ρ:Tk} (h:Same H H'):Ext H ρ H' ρ:=⟨List.prefix_refl _,fun _ h=>h,fun _ h=>.inl h,fun a o e _=>h a o e,fun _ e=>.inl e,fun a o e=>⟨o,h a o e⟩⟩
section
variable {H H':Hp} {ρ ρ':Tk}
theorem fresh_not {a:Addr} {o:HO} (x:Ext H ρ H' ρ') (h:H a=some o) (n:a ∉ ρ):a ∉ ρ':=fun z=>by
  rcases z with z | z
  · rcases x.new a z with z | z
    · exact n (.inl z)
    · rw [h] at z; cases z
  · rcases x.hidN a z with z | z
    · exact n (.inr z)
    · rw [h] at z; cases z
theorem Ext.kp {a:Addr} {o:HO} (x:Ext H ρ H' ρ') (h:H a=some o) (n:a ∉ ρ):H' a=some o:=x.keep a o h fun z=>n (.inl z)
mutual
theorem Rep.ext (x:Ext H ρ H' ρ'):∀ {p:PV} {v:V},Rep H ρ p v->Rep H' ρ' p v
  | .non,_,h=>h
  | .bl _,_,h=>h
  | .int _,_,h=>h
  | .str _,_,h=>h
  | .tup ps,v,h=>by
    obtain ⟨a,vs,e,s,n,r⟩:=h
    exact ⟨a,vs,e,x.kp s n,fresh_not x s n,RepL.ext x r⟩
  | .lst ps,v,h=>by
    obtain ⟨a,vs,e,s,n,r⟩:=h
    exact ⟨a,vs,e,x.kp s n,fresh_not x s n,RepL.ext x r⟩
  | .fro ps,v,h=>by
    obtain ⟨a,vs,e,s,n,r⟩:=h
    rcases s with s | ⟨o,s⟩
    · exact ⟨a,vs,e,.inl (x.kp s n),fresh_not x s n,RepL.ext x r⟩
    · exact ⟨a,vs,e,.inr ⟨o,x.kp s n⟩,fresh_not x s n,RepL.ext x r⟩
  | .ref i,v,h=>by
    obtain ⟨a,e,rfl⟩:=h
    obtain ⟨t,et⟩:=x.pre
    refine ⟨a,?_,rfl⟩
    rw [<- et,List.getElem?_append_left (List.getElem?_eq_some_iff.mp e).1]
    exact e
  | .dic,v,h=>by
    obtain ⟨a,e,s,n⟩:=h
    exact ⟨a,e,x.kp s n,fresh_not x s n⟩
theorem RepL.ext (x:Ext H ρ H' ρ'):∀ {ps:List PV} {vs:List V},RepL H ρ ps vs->RepL H' ρ' ps vs
  | [],_,h=>h
  | p :: ps,vs,h=>by
    obtain ⟨v,r,e,h1,h2⟩:=h
    exact ⟨v,r,e,Rep.ext x h1,RepL.ext x h2⟩
end
mutual
theorem Rep.hide {a:Addr} {o:HO} (h:H a=none):∀ {p:PV} {v:V},Rep H ρ p v->Rep (upd H a o) (ρ.hide a) p v
  | .non,_,r=>r
  | .bl _,_,r=>r
  | .int _,_,r=>r
  | .str _,_,r=>r
  | .tup ps,v,⟨b,vs,e,s,n,r⟩=>⟨b,vs,e,by rw [upd_ne (ne_of_none s h)]; exact s,fun z=>by
      rcases z with z | z
      · exact n (.inl z)
      · rcases List.mem_cons.mp z with z | z
        · exact ne_of_none s h z
        · exact n (.inr z),RepL.hide h r⟩
  | .lst ps,v,⟨b,vs,e,s,n,r⟩=>⟨b,vs,e,by rw [upd_ne (ne_of_none s h)]; exact s,fun z=>by
      rcases z with z | z
      · exact n (.inl z)
      · rcases List.mem_cons.mp z with z | z
        · exact ne_of_none s h z
        · exact n (.inr z),RepL.hide h r⟩
  | .fro ps,v,⟨b,vs,e,s,n,r⟩=>by
      have ne:b ≠ a:=by
        rcases s with s | ⟨_,s⟩
        · exact ne_of_none s h
        · exact ne_of_none s h
      refine ⟨b,vs,e,?_,fun z=>?_,RepL.hide h r⟩
      · rcases s with s | ⟨u,s⟩
        · exact .inl (by rw [upd_ne ne]; exact s)
        · exact .inr ⟨u,by rw [upd_ne ne]; exact s⟩
      · rcases z with z | z
        · exact n (.inl z)
        · rcases List.mem_cons.mp z with z | z
          · exact ne z
          · exact n (.inr z)
  | .ref i,v,r=>r
  | .dic,v,⟨b,e,s,n⟩=>⟨b,e,by rw [upd_ne (ne_of_none s h)]; exact s,fun z=>by
      rcases z with z | z
      · exact n (.inl z)
      · rcases List.mem_cons.mp z with z | z
        · exact ne_of_none s h z
        · exact n (.inr z)⟩
theorem RepL.hide {a:Addr} {o:HO} (h:H a=none):∀ {ps:List PV} {vs:List V},RepL H ρ ps vs->RepL (upd H a o) (ρ.hide a) ps vs
  | [],_,r=>r
  | p :: ps,_,⟨v,t,e,r1,r2⟩=>⟨v,t,e,Rep.hide h r1,RepL.hide h r2⟩
end
mutual
theorem Rep.rehide {a:Addr} {o:HO} (h:a ∈ ρ.hid):∀ {p:PV} {v:V},Rep H ρ p v->Rep (upd H a o) ρ p v
  | .non,_,r=>r
  | .bl _,_,r=>r
  | .int _,_,r=>r
  | .str _,_,r=>r
  | .tup ps,v,⟨b,vs,e,s,n,r⟩=>⟨b,vs,e,by rw [upd_ne (show b ≠ a from fun z=>n (.inr (by rw [z]; exact h)))]; exact s,n,RepL.rehide h r⟩
  | .lst ps,v,⟨b,vs,e,s,n,r⟩=>⟨b,vs,e,by rw [upd_ne (show b ≠ a from fun z=>n (.inr (by rw [z]; exact h)))]; exact s,n,RepL.rehide h r⟩
  | .fro ps,v,⟨b,vs,e,s,n,r⟩=>by
      have ne:b ≠ a:=fun z=>n (.inr (by rw [z]; exact h))
      refine ⟨b,vs,e,?_,n,RepL.rehide h r⟩
      rcases s with s | ⟨u,s⟩
      · exact .inl (by rw [upd_ne ne]; exact s)
      · exact .inr ⟨u,by rw [upd_ne ne]; exact s⟩
  | .ref i,v,r=>r
  | .dic,v,⟨b,e,s,n⟩=>⟨b,e,by rw [upd_ne (show b ≠ a from fun z=>n (.inr (by rw [z]; exact h)))]; exact s,n⟩
theorem RepL.rehide {a:Addr} {o:HO} (h:a ∈ ρ.hid):∀ {ps:List PV} {vs:List V},RepL H ρ ps vs->RepL (upd H a o) ρ ps vs
  | [],_,r=>r
  | p :: ps,_,⟨v,t,e,r1,r2⟩=>⟨v,t,e,Rep.rehide h r1,RepL.rehide h r2⟩
end
mutual
theorem Rep.unhide {hs:List Addr} (hh:∀ a,a ∈ hs->a ∈ ρ.hid):∀ {p:PV} {v:V},Rep H ρ p v->Rep H ⟨ρ.tr,hs⟩ p v
  | .non,_,r=>r
  | .bl _,_,r=>r
  | .int _,_,r=>r
  | .str _,_,r=>r
  | .tup ps,v,⟨b,vs,e,s,n,r⟩=>⟨b,vs,e,s,fun z=>n (z.imp id (hh _)),RepL.unhide hh r⟩
  | .lst ps,v,⟨b,vs,e,s,n,r⟩=>⟨b,vs,e,s,fun z=>n (z.imp id (hh _)),RepL.unhide hh r⟩
  | .fro ps,v,⟨b,vs,e,s,n,r⟩=>⟨b,vs,e,s,fun z=>n (z.imp id (hh _)),RepL.unhide hh r⟩
  | .ref i,v,r=>r
  | .dic,v,⟨b,e,s,n⟩=>⟨b,e,s,fun z=>n (z.imp id (hh _))⟩
theorem RepL.unhide {hs:List Addr} (hh:∀ a,a ∈ hs->a ∈ ρ.hid):∀ {ps:List PV} {vs:List V},RepL H ρ ps vs->RepL H ⟨ρ.tr,hs⟩ ps vs
  | [],_,r=>r
  | p :: ps,_,⟨v,t,e,r1,r2⟩=>⟨v,t,e,Rep.unhide hh r1,RepL.unhide hh r2⟩
end
theorem RepL.length:∀ {ps:List PV} {vs:List V},RepL H ρ ps vs->ps.length=vs.length
  | [],_,h=>by cases h; rfl
  | p :: ps,_,⟨v,r,rfl,_,h2⟩=>by rw [List.length_cons,List.length_cons,RepL.length h2]
theorem RepL.get:∀ {ps:List PV} {vs:List V} {i:Nat} {p:PV},RepL H ρ ps vs->ps[i]?=some p->∃ v,vs[i]?=some v/\Rep H ρ p v
  | [],_,_,_,_,e=>by simp at e
  | p :: ps,_,0,q,⟨v,r,rfl,h1,h2⟩,e=>by simp at e; subst e; exact ⟨v,rfl,h1⟩
  | p :: ps,_,i + 1,q,⟨v,r,rfl,h1,h2⟩,e=>by
    obtain ⟨u,e1,e2⟩:=RepL.get (i:=i) h2 (by simpa using e)
    exact ⟨u,by simpa using e1,e2⟩
theorem RepL.cons {p:PV} {v:V} {ps:List PV} {vs:List V} (h:Rep H ρ p v) (r:RepL H ρ ps vs):RepL H ρ (p :: ps) (v :: vs):=⟨v,vs,rfl,h,r⟩
theorem RepL.nil:RepL H ρ [] []:=rfl
theorem RepL.append:∀ {ps qs:List PV} {vs us:List V},RepL H ρ ps vs->RepL H ρ qs us->RepL H ρ (ps ++ qs) (vs ++ us)
  | [],_,_,_,h,g=>by cases h; exact g
  | p :: ps,_,_,_,⟨v,r,rfl,h1,h2⟩,g=>⟨v,_,rfl,h1,RepL.append h2 g⟩
theorem RepL.take:∀ {ps:List PV} {vs:List V} (n:Nat),RepL H ρ ps vs->RepL H ρ (ps.take n) (vs.take n)
  | _,_,0,_=>rfl
  | [],_,n + 1,h=>by cases h; rfl
  | p :: ps,_,n + 1,⟨v,r,rfl,h1,h2⟩=>⟨v,_,rfl,h1,RepL.take n h2⟩
theorem RepL.drop:∀ {ps:List PV} {vs:List V} (n:Nat),RepL H ρ ps vs->RepL H ρ (ps.drop n) (vs.drop n)
  | _,_,0,h=>h
  | [],_,n + 1,h=>by cases h; rfl
  | p :: ps,_,n + 1,⟨v,r,rfl,h1,h2⟩=>RepL.drop n h2
theorem RepL.set {p:PV} {v:V} (h:Rep H ρ p v):∀ {ps:List PV} {vs:List V} (i:Nat),RepL H ρ ps vs->RepL H ρ (ps.set i p) (vs.set i v)
  | [],_,_,g=>by cases g; rfl
  | q :: ps,_,0,⟨u,r,rfl,h1,h2⟩=>⟨v,r,rfl,h,h2⟩
  | q :: ps,_,i + 1,⟨u,r,rfl,h1,h2⟩=>⟨u,_,rfl,h1,RepL.set h i h2⟩
theorem RepL.reverse:∀ {ps:List PV} {vs:List V},RepL H ρ ps vs->RepL H ρ ps.reverse vs.reverse
  | [],_,g=>by cases g; rfl
  | q :: ps,_,⟨u,r,rfl,h1,h2⟩=>by rw [List.reverse_cons,List.reverse_cons]; exact (RepL.reverse h2).append (RepL.cons h1 RepL.nil)
theorem RepL.rep {ps:List PV} {vs:List V} (h:RepL H ρ ps vs):∀ n,RepL H ρ (List.replicate n ps).flatten (List.replicate n vs).flatten
  | 0=>rfl
  | n + 1=>by rw [List.replicate_succ,List.replicate_succ,List.flatten_cons,List.flatten_cons]; exact h.append (RepL.rep h n)
theorem RepL.toInts:∀ {ns:List Int} {vs:List V},RepL H ρ (ns.map .int) vs->vs=ns.map V.int
  | [],_,h=>h
  | n :: ns,_,⟨v,r,rfl,h1,h2⟩=>by
    have e:v=V.int n:=h1
    rw [RepL.toInts h2,e]; rfl
theorem RepL.toBls:∀ {ns:List Bool} {vs:List V},RepL H ρ (ns.map .bl) vs->vs=ns.map V.bl
  | [],_,h=>h
  | n :: ns,_,⟨v,r,rfl,h1,h2⟩=>by
    have e:v=V.bl n:=h1
    rw [RepL.toBls h2,e]; rfl
end
structure Rel (H:Hp) (ρ:Tk) (st:Store):Prop where
  len:ρ.tr.length=st.length
  nd:ρ.tr.Nodup
  hd:∀ a ∈ ρ.hid,∃ o,H a=some o
  ap:∀ a ∈ ρ.hid,a ∉ ρ.tr
  cell:∀ (i:Nat) (a:Addr) (c:Cell),ρ.tr[i]?=some a->st[i]?=some c->(match c with | .lst ps=>∃ vs,H a=some (.lst vs)/\RepL H ρ ps vs)
section
variable {H H':Hp} {ρ ρ':Tk} {st st':Store}
theorem Rel.lst (R:Rel H ρ st) {i:Nat} {ps:List PV} (h:st[i]?=some (.lst ps)):∃ a vs,ρ.tr[i]?=some a/\H a=some (.lst vs)/\RepL H ρ ps vs:=by
  have hi:i < ρ.tr.length:=by rw [R.len]; exact (List.getElem?_eq_some_iff.mp h).1
  have e:ρ.tr[i]?=some ρ.tr[i]:=List.getElem?_eq_getElem hi
  obtain ⟨vs,e1,e2⟩:=R.cell i _ _ e h
  exact ⟨_,vs,e,e1,e2⟩
theorem Rel.dom (R:Rel H ρ st) {a:Addr} (h:a ∈ ρ.tr):∃ vs,H a=some (.lst vs):=by
  obtain ⟨i,hi,e⟩:=List.getElem_of_mem h
  have hs:i < st.length:=by rw [<- R.len]; exact hi
  have q:=R.cell i a st[i] (by rw [List.getElem?_eq_getElem hi,e]) (List.getElem?_eq_getElem hs)
  cases c:st[i] with
  | lst ps=>rw [c] at q; obtain ⟨vs,e1,_⟩:=q; exact ⟨vs,e1⟩
theorem Rel.fresh (R:Rel H ρ st) {p:Addr} (h:H p=none):p ∉ ρ:=fun z=>by
  rcases z with z | z
  · obtain ⟨vs,q⟩:=R.dom z
    rw [h] at q; cases q
  · obtain ⟨o,q⟩:=R.hd p z
    rw [h] at q; cases q
theorem Rel.later (R:Rel H ρ st) (x:Ext H ρ H' ρ) (k:∀ a o,a ∈ ρ.tr->H a=some o->H' a=some o):Rel H' ρ st where
  len:=R.len
  nd:=R.nd
  hd:=fun a ha=>let ⟨o,e⟩:=R.hd a ha; x.old a o e
  ap:=R.ap
  cell:=fun i a c h1 h2=>by
    have q:=R.cell i a c h1 h2
    cases c with
    | lst ps=>
      obtain ⟨vs,e1,e2⟩:=q
      exact ⟨vs,k a _ (List.mem_of_getElem? h1) e1,e2.ext x⟩
end
theorem Rel.add {H:Hp} {ρ:Tk} {st:Store} (R:Rel H ρ st) {p:Addr} {o:HO} (h:H p=none):Rel (upd H p o) ρ st:=
  R.later (Ext.add h) fun a u hm e=>by rw [upd_ne (ne_of_none e h)]; exact e
theorem Rel.same {H H':Hp} {ρ:Tk} {st:Store} (R:Rel H ρ st) (h:Same H H'):Rel H' ρ st:=R.later (Ext.same h) fun a u _ e=>h a u e
theorem nodup_inj {α:Type} {l:List α} (h:l.Nodup) {i j:Nat} (hi:i < l.length) (hj:j < l.length) (e:l[i]=l[j]):i=j:=by
  rcases Nat.lt_trichotomy i j with z | z | z
  · exact absurd e ((List.pairwise_iff_getElem.mp h) i j hi hj z)
  · exact z
  · exact absurd e.symm ((List.pairwise_iff_getElem.mp h) j i hj hi z)
theorem Ext.put {H:Hp} {ρ:Tk} {a:Addr} {o o':HO} (h:a ∈ ρ.tr) (e:H a=some o):Ext H ρ (upd H a o') ρ where
  pre:=List.prefix_refl _
  hidM:=fun _ h=>h
  hidN:=fun _ h=>.inl h
  keep:=fun b u q n=>by rw [upd_ne (show b ≠ a from fun z=>n (by rw [z]; exact h))]; exact q
  new:=fun b q=>.inl q
  old:=fun b u q=>by
    by_cases z:b=a
    · exact ⟨o',by rw [z]; exact upd_same⟩
    · exact ⟨u,by rw [upd_ne z]; exact q⟩
theorem Rel.put {H:Hp} {ρ:Tk} {st:Store} (R:Rel H ρ st) {i:Nat} {a:Addr} {ps:List PV} {vs:List V} {o:HO} (hi:ρ.tr[i]?=some a) (e:H a=some o) (r:RepL H ρ ps vs):Rel (upd H a (.lst vs)) ρ (st.set i (.lst ps)) where
  len:=by rw [List.length_set]; exact R.len
  nd:=R.nd
  hd:=fun b hb=>let ⟨u,q⟩:=R.hd b hb; ⟨u,by rw [upd_ne (show b ≠ a from fun z=>R.ap b hb (by rw [z]; exact List.mem_of_getElem? hi))]; exact q⟩
  ap:=R.ap
  cell:=fun j b c h1 h2=>by
    have x:=Ext.put (o':=.lst vs) (List.mem_of_getElem? hi) e
    by_cases hj:i=j
    · subst hj
      rw [hi] at h1; cases h1
      rw [List.getElem?_set_self (by rw [<- R.len]; exact (List.getElem?_eq_some_iff.mp hi).1)] at h2
      cases h2
      exact ⟨vs,upd_same,r.ext x⟩
    · rw [List.getElem?_set_ne hj] at h2
      have q:=R.cell j b c h1 h2
      have hb:b ≠ a:=fun z=>by
        subst z
        have l1:=(List.getElem?_eq_some_iff.mp hi)
        have l2:=(List.getElem?_eq_some_iff.mp h1)
        exact hj (nodup_inj R.nd l1.1 l2.1 (l1.2.trans l2.2.symm))
      cases c with
      | lst qs=>
        obtain ⟨us,e1,e2⟩:=q
        exact ⟨us,by rw [upd_ne hb]; exact e1,e2.ext x⟩
theorem Rel.hide {H:Hp} {ρ:Tk} {st:Store} (R:Rel H ρ st) {p:Addr} {o:HO} (h:H p=none):Rel (upd H p o) (ρ.hide p) st:=by
  have x:Ext H ρ (upd H p o) ρ:=Ext.add h
  have R':=R.add (p:=p) (o:=o) h
  refine ⟨R'.len,R'.nd,fun a ha=>?_,fun a ha z=>?_,fun i a c h1 h2=>?_⟩
  · rcases List.mem_cons.mp ha with rfl | ha
    · exact ⟨o,upd_same⟩
    · exact R'.hd a ha
  · rcases List.mem_cons.mp ha with rfl | ha
    · exact R.fresh h (.inl z)
    · exact R.ap a ha z
  · have q:=R.cell i a c h1 h2
    cases c with
    | lst ps=>
      obtain ⟨vs,e1,e2⟩:=q
      exact ⟨vs,by rw [upd_ne (ne_of_none e1 h)]; exact e1,e2.hide h⟩
theorem Rel.rehide {H:Hp} {ρ:Tk} {st:Store} (R:Rel H ρ st) {p:Addr} {o:HO} (h:p ∈ ρ.hid):Rel (upd H p o) ρ st:=by
  refine ⟨R.len,R.nd,fun a ha=>?_,R.ap,fun i a c h1 h2=>?_⟩
  · by_cases e:a=p
    · exact ⟨o,by rw [e]; exact upd_same⟩
    · obtain ⟨u,q⟩:=R.hd a ha
      exact ⟨u,by rw [upd_ne e]; exact q⟩
  · have q:=R.cell i a c h1 h2
    have ne:a ≠ p:=fun z=>R.ap p h (by rw [<- z]; exact List.mem_of_getElem? h1)
    cases c with
    | lst ps=>
      obtain ⟨vs,e1,e2⟩:=q
      exact ⟨vs,by rw [upd_ne ne]; exact e1,e2.rehide h⟩
theorem Rel.unhide {H:Hp} {ρ:Tk} {st:Store} {hs:List Addr} (hh:∀ a,a ∈ hs->a ∈ ρ.hid) (R:Rel H ρ st):Rel H ⟨ρ.tr,hs⟩ st:=by
  refine ⟨R.len,R.nd,fun a ha=>R.hd a (hh a ha),fun a ha=>R.ap a (hh a ha),fun i a c h1 h2=>?_⟩
  have q:=R.cell i a c h1 h2
  cases c with
  | lst ps=>
    obtain ⟨vs,e1,e2⟩:=q
    exact ⟨vs,e1,RepL.unhide hh e2⟩
theorem Ext.hide {H:Hp} {ρ:Tk} {p:Addr} {o:HO} (h:H p=none):Ext H ρ (upd H p o) (ρ.hide p) where
  pre:=List.prefix_refl _
  hidM:=fun _ h=>List.mem_cons_of_mem _ h
  hidN:=fun a ha=>by
    rcases List.mem_cons.mp ha with rfl | ha
    · exact .inr h
    · exact .inl ha
  keep:=fun a u e _=>by rw [upd_ne (ne_of_none e h)]; exact e
  new:=fun a e=>.inl e
  old:=fun a u e=>⟨u,by rw [upd_ne (ne_of_none e h)]; exact e⟩
theorem Ext.put0 {H H1:Hp} {ρ ρ1:Tk} {p:Addr} {o:HO} (x:Ext H ρ H1 ρ1) (h:H p=none):Ext H ρ (upd H1 p o) ρ1 where
  pre:=x.pre
  hidM:=x.hidM
  hidN:=x.hidN
  keep:=fun a u e n=>by rw [upd_ne (ne_of_none e h)]; exact x.keep a u e n
  new:=x.new
  old:=fun a u e=>by rw [upd_ne (ne_of_none e h)]; exact x.old a u e
theorem Ext.unhide {H H1:Hp} {ρ ρ1:Tk} (x:Ext H ρ H1 ρ1):Ext H ρ H1 ⟨ρ1.tr,ρ.hid⟩ where
  pre:=x.pre
  hidM:=fun _ h=>h
  hidN:=fun _ h=>.inl h
  keep:=x.keep
  new:=x.new
  old:=x.old
def EnvR (H:Hp) (ρ:Tk) (Γ:Gam) (σ:St):Prop:=Γ.length=σ.length/\∀ (i:Nat) (p:PV),Γ[i]?=some (some p)->∃ v,σ[i]?=some (some v)/\Rep H ρ p v
theorem EnvR.ext {H H':Hp} {ρ ρ':Tk} {Γ:Gam} {σ:St} (x:Ext H ρ H' ρ') (h:EnvR H ρ Γ σ):EnvR H' ρ' Γ σ:=
  ⟨h.1,fun i p e=>let ⟨v,a,b⟩:=h.2 i p e; ⟨v,a,b.ext x⟩⟩
theorem EnvR.hide {H:Hp} {ρ:Tk} {Γ:Gam} {σ:St} {a:Addr} {o:HO} (n:H a=none) (h:EnvR H ρ Γ σ):EnvR (upd H a o) (ρ.hide a) Γ σ:=⟨h.1,fun i p e=>let ⟨v,a,b⟩:=h.2 i p e; ⟨v,a,b.hide n⟩⟩
theorem EnvR.rehide {H:Hp} {ρ:Tk} {Γ:Gam} {σ:St} {a:Addr} {o:HO} (n:a ∈ ρ.hid) (h:EnvR H ρ Γ σ):EnvR (upd H a o) ρ Γ σ:=⟨h.1,fun i p e=>let ⟨v,a,b⟩:=h.2 i p e; ⟨v,a,b.rehide n⟩⟩
theorem EnvR.set {H:Hp} {ρ:Tk} {Γ:Gam} {σ:St} {p:PV} {v:V} (h:EnvR H ρ Γ σ) (r:Rep H ρ p v) (i:Nat):EnvR H ρ (Γ.set i (some p)) (σ.set i (some v)):=by
  refine ⟨by rw [List.length_set,List.length_set]; exact h.1,fun j q e=>?_⟩
  rw [List.getElem?_set] at e
  rw [List.getElem?_set]
  by_cases hj:i=j
  · subst hj
    simp only [if_true] at e ⊢
    by_cases hl:i < Γ.length
    · rw [if_pos hl] at e; cases e
      rw [if_pos (by rw [<- h.1]; exact hl)]
      exact ⟨v,rfl,r⟩
    · rw [if_neg hl] at e; cases e
  · rw [if_neg hj] at e ⊢
    exact h.2 j q e
end Sm
namespace Sm
open PySem PySem.Spec L2
def Res.bind {α β:Type} (r:Res α) (f:α->Store->Res β):Res β:=match r with
  | .ok a st=>f a st
  | .exc x st=>.exc x st
  | .stuck=>.stuck
def okO {α:Type} (st:Store):Option α->Res α
  | some a=>.ok a st
  | none=>.stuck
section
variable (X:Cx)
def WE (e:Expr):TE:=fun σ H Q=>∀ (pins:List (Addr × Obj)) (s:Shared),Inv X pins σ H s->wpAny (model X.prog X.w) X.A (eval e X.env) (EP X pins σ Q) X.xe s
def WT (e:Expr):TT:=fun σ H Q=>∀ (pins:List (Addr × Obj)) (s:Shared),Inv X pins σ H s->wpAny (model X.prog X.w) X.A (isTrue e X.env (eval e X.env)) (TP X pins σ Q) X.xe s
def WW (e:Expr):TT:=fun σ H Q=>∀ (wh:Sem Value) (pins:List (Addr × Obj)) (s:Shared),Inv X pins σ H s->wpAny (model X.prog X.w) X.A (isTrue e X.env wh) (TP X pins σ Q) X.xe s
def WA (es:List Expr):TA:=fun σ H Q=>∀ (pos:Pos) (pins:List (Addr × Obj)) (s:Shared),Inv X pins σ H s->wpAny (model X.prog X.w) X.A (spliced (backTo pos (starEach es X.env))) (AP X pins σ Q) X.xe s
def WS (st:Stmt):TS:=fun D σ H=>∀ (pins:List (Addr × Obj)) (s:Shared),Inv X pins σ H s->wpAny (model X.prog X.w) X.A (exec st X.env) (SP X pins D) X.xe s
def WB (st:List Stmt):TS:=fun D σ H=>∀ (pins:List (Addr × Obj)) (s:Shared),Inv X pins σ H s->wpAny (model X.prog X.w) X.A (execs st X.env) (SP X pins D) X.xe s
def WI (tg iter : Expr) : TI := fun σ H R => ∀ (pins : List (Addr × Obj)) (s : Shared), Inv X pins σ H s ->
    wpAny (model X.prog X.w) X.A (eval iter X.env) (fun v s1=>wpAny (model X.prog X.w) X.A (pyIter v) (PIE X pins σ tg R) X.xe s1) X.xe s
def WO (f:Value->Value->Sem Value):R2:=fun x y H Q=>∀ (pins:List (Addr × Obj)) (s:Shared) (σ:St) (v u:Value),Inv X pins σ H s->RelV x v->RelV y u->wpAny (model X.prog X.w) X.A (f v u) (EP X pins σ Q) X.xe s
def WC (f:Value):List V->Hp->VK->Prop:=fun xs H Q=>∀ (pins:List (Addr × Obj)) (s:Shared) (σ:St) (us:List Value),Inv X pins σ H s->Vals xs us->wpAny (model X.prog X.w) X.A (call f us) (EP X pins σ Q) X.xe s
end
section
variable {X:Cx}
theorem pe_w {e:Expr}:PE X e (WE X e):=fun pins s _ _ _ I h=>h pins s I
theorem pt_w {e:Expr}:PT X e (WT X e):=fun pins s _ _ _ I h=>h pins s I
theorem pw_w {e:Expr}:PW X e (WW X e):=fun wh pins s _ _ _ I h=>h wh pins s I
theorem pa_w {es:List Expr}:PA X es (WA X es):=fun pos pins s _ _ _ I h=>h pos pins s I
theorem ps_w {st:Stmt}:PS X st (WS X st):=fun pins s _ _ _ I h=>h pins s I
theorem pss_w {st:List Stmt}:PSs X st (WB X st):=fun pins s _ _ _ I h=>h pins s I
theorem pi_w {tg iter:Expr}:PI X tg iter (WI X tg iter):=fun pins s _ _ _ I h=>h pins s I
theorem op_w {f:Value->Value->Sem Value}:OpR X f (WO X f):=fun pins s σ _ _ _ v u _ I r1 r2 h=>h pins s σ v u I r1 r2
theorem call_w {f:Value}:CallR X f (WC X f):=fun pins s σ _ _ us _ I r h=>h pins s σ us I r
theorem WE.of {e:Expr} {t:TE} {σ:St} {H:Hp} {Q:VK} (h:PE X e t) (q:t σ H Q):WE X e σ H Q:=fun pins s I=>h pins s σ H Q I q
theorem WT.of {e:Expr} {t:TT} {σ:St} {H:Hp} {Q:Bool->Hp->Prop} (h:PT X e t) (q:t σ H Q):WT X e σ H Q:=fun pins s I=>h pins s σ H Q I q
theorem WW.of {e:Expr} {t:TT} {σ:St} {H:Hp} {Q:Bool->Hp->Prop} (h:PW X e t) (q:t σ H Q):WW X e σ H Q:=fun wh pins s I=>h wh pins s σ H Q I q
theorem WA.of {es:List Expr} {t:TA} {σ:St} {H:Hp} {Q:List V->Hp->Prop} (h:PA X es t) (q:t σ H Q):WA X es σ H Q:=fun pos pins s I=>h pos pins s σ H Q I q
theorem WS.of {st:Stmt} {t:TS} {σ:St} {H:Hp} {D:Ends} (h:PS X st t) (q:t D σ H):WS X st D σ H:=fun pins s I=>h pins s σ H D I q
theorem WB.of {st:List Stmt} {t:TS} {σ:St} {H:Hp} {D:Ends} (h:PSs X st t) (q:t D σ H):WB X st D σ H:=fun pins s I=>h pins s σ H D I q
theorem WI.of {tg iter:Expr} {t:TI} {σ:St} {H:Hp} {R:It->Hp->Prop} (h:PI X tg iter t) (q:t σ H R):WI X tg iter σ H R:=fun pins s I=>h pins s σ H R I q
theorem WO.of {f:Value->Value->Sem Value} {r:R2} {x y:V} {H:Hp} {Q:VK} (h:OpR X f r) (q:r x y H Q):WO X f x y H Q:=fun pins s σ v u I r1 r2=>h pins s σ H x y v u Q I r1 r2 q
theorem WC.of {f:Value} {r:List V->Hp->VK->Prop} {xs:List V} {H:Hp} {Q:VK} (h:CallR X f r) (q:r xs H Q):WC X f xs H Q:=fun pins s σ us I r1=>h pins s σ H xs us Q I r1 q
end
def XFs (H:Hp) (ρ:Tk):Option (Str × PV)->Option Addr->Prop
  | none,dv=>dv=none
  | some (n,p),dv=>∃ dx v,dv=some dx/\H dx=some (.xd [(n,v)])/\dx ∉ ρ/\Rep H ρ p v
def Acc {α:Type} (mg:Str->Option Value) (E:XK) (H:Hp) (ρ:Tk) (P:α->Store->Hp->Tk->Prop):Res α->Prop
  | .ok a st=>∀ H' ρ',Ext H ρ H' ρ'->Rel H' ρ' st->P a st H' ρ'
  | .exc x st=>∀ C dv H' ρ',mg x.cls=some (.ref C)->Ext H ρ H' ρ'->Rel H' ρ' st->XFs H' ρ' x.fs dv->E (.ref C) dv H'
  | .stuck=>False
section
variable {α β:Type} {mg:Str->Option Value} {E:XK} {H H1:Hp} {ρ ρ1:Tk}
theorem Acc.mono {P P':α->Store->Hp->Tk->Prop} {r:Res α} (h:Acc mg E H ρ P r) (x:Ext H ρ H1 ρ1) (k:∀ a st H' ρ',P a st H' ρ'->P' a st H' ρ'):Acc mg E H1 ρ1 P' r:=by
  cases r with
  | ok a st=>exact fun H' ρ' x' R'=>k _ _ _ _ (h H' ρ' (x.trans x') R')
  | exc e st=>exact fun C dv H' ρ' m x' R' f=>h C dv H' ρ' m (x.trans x') R' f
  | stuck=>exact h
theorem Acc.later {P:α->Store->Hp->Tk->Prop} {r:Res α} (h:Acc mg E H ρ P r) (x:Ext H ρ H1 ρ1):Acc mg E H1 ρ1 P r:=h.mono x fun _ _ _ _ p=>p
theorem Acc.bind {P:β->Store->Hp->Tk->Prop} {r:Res α} {f:α->Store->Res β} (h:Acc mg E H ρ P (r.bind f)):Acc mg E H ρ (fun a st1 H1 ρ1=>Acc mg E H1 ρ1 P (f a st1)) r:=by
  cases r with
  | ok a st=>exact fun H' ρ' x' R'=>Acc.later (show Acc mg E H ρ P (f a st) from h) x'
  | exc e st=>exact h
  | stuck=>exact h
end
abbrev QV (Q:VK):PV->Store->Hp->Tk->Prop:=fun p _ H' ρ'=>∀ v,Rep H' ρ' p v->Q v H'
abbrev QL (Q:List V->Hp->Prop):List PV->Store->Hp->Tk->Prop:=fun ps _ H' ρ'=>∀ vs,RepL H' ρ' ps vs->Q vs H'
abbrev QB (Q:Bool->Hp->Prop):Bool->Store->Hp->Tk->Prop:=fun b _ H' _=>Q b H'
structure SimE (X:Cx) (E:XK) (e:Expr) (m:ME):Prop where
  run:∀ (Γ:Gam) (σ:St) (H:Hp) (ρ:Tk) (st:Store) (Q:VK),Rel H ρ st->EnvR H ρ Γ σ->Acc X.mg E H ρ (QV Q) (m Γ st)->WE X e σ H Q
structure SimT (X:Cx) (E:XK) (e:Expr) (m:Gam->Store->Res Bool):Prop where
  run:∀ (Γ:Gam) (σ:St) (H:Hp) (ρ:Tk) (st:Store) (Q:Bool->Hp->Prop),Rel H ρ st->EnvR H ρ Γ σ->Acc X.mg E H ρ (QB Q) (m Γ st)->WT X e σ H Q
structure SimW (X:Cx) (E:XK) (e:Expr) (m:Gam->Store->Res Bool):Prop where
  run:∀ (Γ:Gam) (σ:St) (H:Hp) (ρ:Tk) (st:Store) (Q:Bool->Hp->Prop),Rel H ρ st->EnvR H ρ Γ σ->Acc X.mg E H ρ (QB Q) (m Γ st)->WW X e σ H Q
structure SimA (X:Cx) (E:XK) (es:List Expr) (m:Gam->Store->Res (List PV)):Prop where
  run:∀ (Γ:Gam) (σ:St) (H:Hp) (ρ:Tk) (st:Store) (Q:List V->Hp->Prop),Rel H ρ st->EnvR H ρ Γ σ->Acc X.mg E H ρ (QL Q) (m Γ st)->WA X es σ H Q
abbrev OP:=Store->PV->PV->Res PV
structure OpS (X:Cx) (E:XK) (f:Value->Value->Sem Value) (o:OP):Prop where
  run:∀ (H:Hp) (ρ:Tk) (st:Store) (p q:PV) (x y:V) (Q:VK),Rel H ρ st->Rep H ρ p x->Rep H ρ q y->Acc X.mg E H ρ (QV Q) (o st p q)->WO X f x y H Q
abbrev CF:=Store->List PV->Res PV
structure CallS (X:Cx) (E:XK) (f:Value) (o:CF):Prop where
  run:∀ (H:Hp) (ρ:Tk) (st:Store) (ps:List PV) (xs:List V) (Q:VK),Rel H ρ st->RepL H ρ ps xs->Acc X.mg E H ρ (QV Q) (o st ps)->WC X f xs H Q
section
variable {X:Cx} {E:XK} {Γ:Gam} {σ:St} {H:Hp} {ρ:Tk} {st:Store}
theorem SimE.use {e:Expr} {m:ME} (s:SimE X E e m) {P:PV->Store->Hp->Tk->Prop} {Q:VK} (R:Rel H ρ st) (G:EnvR H ρ Γ σ) (h:Acc X.mg E H ρ P (m Γ st))
    (k:∀ p st1 H1 ρ1 v,Ext H ρ H1 ρ1->Rel H1 ρ1 st1->EnvR H1 ρ1 Γ σ->Rep H1 ρ1 p v->P p st1 H1 ρ1->Q v H1):WE X e σ H Q:=by
  refine s.run Γ σ H ρ st Q R G ?_
  cases r:m Γ st with
  | ok p st1=>rw [r] at h; exact fun H' ρ' x' R' v rv=>k p st1 H' ρ' v x' R' (G.ext x') rv (h H' ρ' x' R')
  | exc e st=>rw [r] at h; exact h
  | stuck=>rw [r] at h; exact h
theorem SimE.use' {e:Expr} {m:ME} (s:SimE X E e m) {P:PV->Store->Hp->Tk->Prop} {Q:VK} (R:Rel H ρ st) (G:EnvR H ρ Γ σ) (h:Acc X.mg E H ρ P (m Γ st))
    (k:∀ p st1 H1 ρ1 v,m Γ st=.ok p st1->Ext H ρ H1 ρ1->Rel H1 ρ1 st1->EnvR H1 ρ1 Γ σ->Rep H1 ρ1 p v->P p st1 H1 ρ1->Q v H1):WE X e σ H Q:=by
  refine s.run Γ σ H ρ st Q R G ?_
  cases r:m Γ st with
  | ok p st1=>rw [r] at h; exact fun H' ρ' x' R' v rv=>k p st1 H' ρ' v r x' R' (G.ext x') rv (h H' ρ' x' R')
  | exc e st=>rw [r] at h; exact h
  | stuck=>rw [r] at h; exact h
theorem SimA.use' {es:List Expr} {m:Gam->Store->Res (List PV)} (s:SimA X E es m) {P:List PV->Store->Hp->Tk->Prop} {Q:List V->Hp->Prop} (R:Rel H ρ st) (G:EnvR H ρ Γ σ) (h:Acc X.mg E H ρ P (m Γ st))
    (k:∀ ps st1 H1 ρ1 vs,m Γ st=.ok ps st1->Ext H ρ H1 ρ1->Rel H1 ρ1 st1->EnvR H1 ρ1 Γ σ->RepL H1 ρ1 ps vs->P ps st1 H1 ρ1->Q vs H1):WA X es σ H Q:=by
  refine s.run Γ σ H ρ st Q R G ?_
  cases r:m Γ st with
  | ok p st1=>rw [r] at h; exact fun H' ρ' x' R' v rv=>k p st1 H' ρ' v r x' R' (G.ext x') rv (h H' ρ' x' R')
  | exc e st=>rw [r] at h; exact h
  | stuck=>rw [r] at h; exact h
theorem SimT.use {e:Expr} {m:Gam->Store->Res Bool} (s:SimT X E e m) {P:Bool->Store->Hp->Tk->Prop} {Q:Bool->Hp->Prop} (R:Rel H ρ st) (G:EnvR H ρ Γ σ) (h:Acc X.mg E H ρ P (m Γ st))
    (k:∀ p st1 H1 ρ1,Ext H ρ H1 ρ1->Rel H1 ρ1 st1->EnvR H1 ρ1 Γ σ->P p st1 H1 ρ1->Q p H1):WT X e σ H Q:=by
  refine s.run Γ σ H ρ st Q R G ?_
  cases r:m Γ st with
  | ok p st1=>rw [r] at h; exact fun H' ρ' x' R'=>k p st1 H' ρ' x' R' (G.ext x') (h H' ρ' x' R')
  | exc e st=>rw [r] at h; exact h
  | stuck=>rw [r] at h; exact h
theorem SimT.use' {e:Expr} {m:Gam->Store->Res Bool} (s:SimT X E e m) {P:Bool->Store->Hp->Tk->Prop} {Q:Bool->Hp->Prop} (R:Rel H ρ st) (G:EnvR H ρ Γ σ) (h:Acc X.mg E H ρ P (m Γ st))
    (k:∀ p st1 H1 ρ1,m Γ st=.ok p st1->Ext H ρ H1 ρ1->Rel H1 ρ1 st1->EnvR H1 ρ1 Γ σ->P p st1 H1 ρ1->Q p H1):WT X e σ H Q:=by
  refine s.run Γ σ H ρ st Q R G ?_
  cases r:m Γ st with
  | ok p st1=>rw [r] at h; exact fun H' ρ' x' R'=>k p st1 H' ρ' r x' R' (G.ext x') (h H' ρ' x' R')
  | exc e st=>rw [r] at h; exact h
  | stuck=>rw [r] at h; exact h
theorem SimW.use {e:Expr} {m:Gam->Store->Res Bool} (s:SimW X E e m) {P:Bool->Store->Hp->Tk->Prop} {Q:Bool->Hp->Prop} (R:Rel H ρ st) (G:EnvR H ρ Γ σ) (h:Acc X.mg E H ρ P (m Γ st))
    (k:∀ p st1 H1 ρ1,Ext H ρ H1 ρ1->Rel H1 ρ1 st1->EnvR H1 ρ1 Γ σ->P p st1 H1 ρ1->Q p H1):WW X e σ H Q:=by
  refine s.run Γ σ H ρ st Q R G ?_
  cases r:m Γ st with
  | ok p st1=>rw [r] at h; exact fun H' ρ' x' R'=>k p st1 H' ρ' x' R' (G.ext x') (h H' ρ' x' R')
  | exc e st=>rw [r] at h; exact h
  | stuck=>rw [r] at h; exact h
theorem SimA.use {es:List Expr} {m:Gam->Store->Res (List PV)} (s:SimA X E es m) {P:List PV->Store->Hp->Tk->Prop} {Q:List V->Hp->Prop} (R:Rel H ρ st) (G:EnvR H ρ Γ σ) (h:Acc X.mg E H ρ P (m Γ st))
    (k:∀ ps st1 H1 ρ1 vs,Ext H ρ H1 ρ1->Rel H1 ρ1 st1->EnvR H1 ρ1 Γ σ->RepL H1 ρ1 ps vs->P ps st1 H1 ρ1->Q vs H1):WA X es σ H Q:=by
  refine s.run Γ σ H ρ st Q R G ?_
  cases r:m Γ st with
  | ok p st1=>rw [r] at h; exact fun H' ρ' x' R' v rv=>k p st1 H' ρ' v x' R' (G.ext x') rv (h H' ρ' x' R')
  | exc e st=>rw [r] at h; exact h
  | stuck=>rw [r] at h; exact h
theorem OpS.use {f:Value->Value->Sem Value} {o:OP} (s:OpS X E f o) {P:PV->Store->Hp->Tk->Prop} {Q:VK} {p q:PV} {x y:V} (R:Rel H ρ st) (rp:Rep H ρ p x) (rq:Rep H ρ q y) (h:Acc X.mg E H ρ P (o st p q))
    (k:∀ p st1 H1 ρ1 v,Ext H ρ H1 ρ1->Rel H1 ρ1 st1->Rep H1 ρ1 p v->P p st1 H1 ρ1->Q v H1):WO X f x y H Q:=by
  refine s.run H ρ st p q x y Q R rp rq ?_
  cases r:o st p q with
  | ok p st1=>rw [r] at h; exact fun H' ρ' x' R' v rv=>k p st1 H' ρ' v x' R' rv (h H' ρ' x' R')
  | exc e st=>rw [r] at h; exact h
  | stuck=>rw [r] at h; exact h
end
end Sm
namespace Sm
open PySem PySem.Spec L2 SeqAt
mutual
def peq:PV->PV->Bool
  | .non,.non=>true
  | .bl a,.bl b=>a == b
  | .bl a,.int b=>(if a then 1 else 0) == b
  | .int a,.bl b=>a == (if b then 1 else 0)
  | .int a,.int b=>a == b
  | .str a,.str b=>a == b
  | .tup xs,.tup ys=>peqL xs ys
  | .lst xs,.lst ys=>peqL xs ys
  | .lst xs,.fro ys=>peqL xs ys
  | .fro xs,.lst ys=>peqL xs ys
  | .fro xs,.fro ys=>peqL xs ys
  | _,_=>false
def peqL:List PV->List PV->Bool
  | [],[]=>true
  | x :: xs,y :: ys=>peq x y && peqL xs ys
  | _,_=>false
end
def good:Nat->PV->Bool
  | _,.ref _=>false
  | _,.dic=>false
  | 0,.tup _=>false
  | 0,.lst _=>false
  | 0,.fro _=>false
  | n + 1,.tup xs=>xs.all (good n)
  | n + 1,.lst xs=>xs.all (good n)
  | n + 1,.fro xs=>xs.all (good n)
  | _,_=>true
theorem peqL_len:∀ {xs ys:List PV},xs.length ≠ ys.length->peqL xs ys=false
  | [],[],h=>absurd rfl h
  | [],_ :: _,_=>by simp [peqL]
  | _ :: _,[],_=>by simp [peqL]
  | x :: xs,y :: ys,h=>by
    rw [peqL,peqL_len (xs:=xs) (ys:=ys) fun e=>h (by simp [e]),Bool.and_false]
theorem peqL_all:∀ {xs ys:List PV},xs.length=ys.length->peqL xs ys=(List.range xs.length).all fun j=>peq (xs.getD j .non) (ys.getD j .non)
  | [],[],_=>by simp [peqL]
  | [],_ :: _,h=>by simp at h
  | _ :: _,[],h=>by simp at h
  | x :: xs,y :: ys,h=>by
    rw [peqL,peqL_all (xs:=xs) (ys:=ys) (by simpa using h),List.length_cons,List.range_succ_eq_map,List.all_cons,List.all_map]
    rfl
section
variable {X:Cx} {pins:List (Addr × Obj)} {σ:St} {H:Hp} {s:Shared} {ρ:Tk}
mutual
theorem rep_same:∀ {p q:PV} {x:V} {n:Nat},good n p=true->good n q=true->Rep H ρ p x->Rep H ρ q x->peq p q=true
  | .non,q,x,n,_,gq,h1,h2=>by
    cases h1
    cases q <;> first | rfl | (cases n <;> cases gq; done) | (cases h2; done) | (obtain ⟨_,_,e,_⟩:=h2; cases e) | (obtain ⟨_,_,e⟩:=h2; cases e)
  | .bl b,q,x,n,_,gq,h1,h2=>by
    cases h1
    cases q <;> first | (cases n <;> cases gq; done) | (cases h2; simp [peq]; done) | (obtain ⟨_,_,e,_⟩:=h2; done) | (obtain ⟨_,_,e,_⟩:=h2; cases e; done) | (obtain ⟨_,_,e⟩:=h2; cases e)
  | .int b,q,x,n,_,gq,h1,h2=>by
    cases h1
    cases q <;> first | (cases n <;> cases gq; done) | (cases h2; simp [peq]; done) | (obtain ⟨_,_,e,_⟩:=h2; done) | (obtain ⟨_,_,e,_⟩:=h2; cases e; done) | (obtain ⟨_,_,e⟩:=h2; cases e)
  | .str b,q,x,n,_,gq,h1,h2=>by
    cases h1
    cases q <;> first | (cases n <;> cases gq; done) | (cases h2; simp [peq]; done) | (obtain ⟨_,_,e,_⟩:=h2; done) | (obtain ⟨_,_,e,_⟩:=h2; cases e; done) | (obtain ⟨_,_,e⟩:=h2; cases e)
  | .tup ps,q,x,0,gp,_,_,_=>by cases gp
  | .tup ps,q,x,n + 1,gp,gq,⟨a,vs,e,ha,_,r⟩,h2=>by
    subst e
    cases q with
    | tup qs=>
      obtain ⟨b,us,e,hb,_,r2⟩:=h2
      cases e
      rw [ha] at hb; cases hb
      rw [peq]
      exact repL_same gp gq r r2
    | lst qs=>obtain ⟨b,us,e,hb,_⟩:=h2; cases e; rw [ha] at hb; cases hb
    | fro qs=>obtain ⟨b,us,e,hb,_⟩:=h2; cases e; rcases hb with hb | ⟨o,hb⟩ <;> (rw [ha] at hb; cases hb)
    | ref i=>cases gq
    | dic=>cases gq
    | _=>cases h2
  | .lst ps,q,x,0,gp,_,_,_=>by cases gp
  | .lst ps,q,x,n + 1,gp,gq,⟨a,vs,e,ha,_,r⟩,h2=>by
    subst e
    cases q with
    | lst qs=>
      obtain ⟨b,us,e,hb,_,r2⟩:=h2
      cases e
      rw [ha] at hb; cases hb
      rw [peq]
      exact repL_same gp gq r r2
    | tup qs=>obtain ⟨b,us,e,hb,_⟩:=h2; cases e; rw [ha] at hb; cases hb
    | fro qs=>
      obtain ⟨b,us,e,hb,_,r2⟩:=h2
      cases e
      rcases hb with hb | ⟨o,hb⟩
      · rw [ha] at hb; cases hb
        rw [peq]
        exact repL_same gp gq r r2
      · rw [ha] at hb; cases hb
    | ref i=>cases gq
    | dic=>cases gq
    | _=>cases h2
  | .fro ps,q,x,0,gp,_,_,_=>by cases gp
  | .fro ps,q,x,n + 1,gp,gq,⟨a,vs,e,ha,_,r⟩,h2=>by
    subst e
    cases q with
    | lst qs=>
      obtain ⟨b,us,e,hb,_,r2⟩:=h2
      cases e
      rcases ha with ha | ⟨o,ha⟩
      · rw [ha] at hb; cases hb
        rw [peq]
        exact repL_same gp gq r r2
      · rw [ha] at hb; cases hb
    | tup qs=>obtain ⟨b,us,e,hb,_⟩:=h2; cases e; rcases ha with ha | ⟨o,ha⟩ <;> (rw [ha] at hb; cases hb)
    | fro qs=>
      obtain ⟨b,us,e,hb,_,r2⟩:=h2
      cases e
      have:vs=us:=by
        rcases ha with ha | ⟨o,ha⟩ <;> rcases hb with hb | ⟨o',hb⟩ <;> (rw [ha] at hb; cases hb) <;> rfl
      subst this
      rw [peq]
      exact repL_same gp gq r r2
    | ref i=>cases gq
    | dic=>cases gq
    | _=>cases h2
  | .ref i,_,_,n,gp,_,_,_=>by cases n <;> cases gp
  | .dic,_,_,n,gp,_,_,_=>by cases n <;> cases gp
theorem repL_same:∀ {ps qs:List PV} {vs:List V} {n:Nat},ps.all (good n)=true->qs.all (good n)=true->RepL H ρ ps vs->RepL H ρ qs vs->peqL ps qs=true
  | [],qs,vs,n,_,_,h1,h2=>by
    cases h1
    cases qs with
    | nil=>rfl
    | cons q qs=>obtain ⟨_,_,e,_⟩:=h2; cases e
  | p :: ps,qs,vs,n,g1,g2,⟨v,r,e,h1,h1'⟩,h2=>by
    subst e
    cases qs with
    | nil=>cases h2
    | cons q qs=>
      obtain ⟨_,_,e,h2,h2'⟩:=h2
      cases e
      rw [List.all_cons,Bool.and_eq_true] at g1 g2
      rw [peqL,rep_same g1.1 g2.1 h1 h2,repL_same g1.2 g2.2 h1' h2']; rfl
end
inductive Kd (H:Hp) (ρ:Tk) (s:Shared):PV->Value->Prop where
  | non:Kd H ρ s .non .none
  | bl (b):Kd H ρ s (.bl b) (.bool b)
  | int (i t):Kd H ρ s (.int i) (.int i t)
  | str (x t):Kd H ρ s (.str x) (.str x t)
  | tup (ps a) (vs:List V) (its:List Value):H a=some (.tup vs)->RepL H ρ ps vs->Vals vs its->s.heap.IsTuple a its.toArray->Kd H ρ s (.tup ps) (.ref a)
  | lst (p ps a) (vs:List V) (its:List Value):(p=.lst ps\/p=.fro ps)->RepL H ρ ps vs->Vals vs its->s.heap.IsList a its.toArray->Kd H ρ s p (.ref a)
theorem kd_of {p:PV} {x:V} {u:Value} {n:Nat} (I:Inv X pins σ H s) (g:good n p=true) (r:Rep H ρ p x) (ru:RelV x u):Kd H ρ s p u:=by
  cases p with
  | non=>cases r; cases ru; exact .non
  | bl b=>cases r; cases ru; exact .bl b
  | int i=>cases r; obtain ⟨t,rfl⟩:=ru; exact .int i t
  | str i=>cases r; obtain ⟨t,rfl⟩:=ru; exact .str i t
  | tup ps=>
    obtain ⟨a,vs,rfl,ha,_,rr⟩:=r
    cases ru
    obtain ⟨its,v1,p1,_⟩:=I.tuple (SqT.of (K:=X.K) ha)
    exact .tup ps a vs its ha rr v1 p1
  | lst ps=>
    obtain ⟨a,vs,rfl,ha,_,rr⟩:=r
    cases ru
    obtain ⟨its,v1,p1,_⟩:=I.list (SqL.of (K:=X.K) ha)
    exact .lst _ ps a vs its (.inl rfl) rr v1 p1.isList
  | fro ps=>
    obtain ⟨a,vs,rfl,ha,_,rr⟩:=r
    cases ru
    obtain ⟨its,v1,p1,_⟩:=I.list (show SqL X.K H a vs from .inl ha)
    exact .lst _ ps a vs its (.inr rfl) rr v1 p1.isList
  | ref i=>cases n <;> cases g
  | dic=>cases n <;> cases g
theorem getD_of {ps:List PV} {vs:List V} {its:List Value} (r:RepL H ρ ps vs) (v:Vals vs its) {j:Nat} (h:j < its.length):∃ x,Rep H ρ (ps.getD j .non) x/\RelV x its[j]:=by
  have l1:=r.length
  have l2:=v.length
  have hj:j < ps.length:=by omega
  obtain ⟨x,e1,e2⟩:=r.get (List.getElem?_eq_getElem hj)
  obtain ⟨u,e3,e4⟩:=v.get e1
  rw [List.getElem?_eq_getElem h] at e3; cases e3
  refine ⟨x,?_,e4⟩
  rw [List.getD,List.getElem?_eq_getElem hj]
  exact e2
theorem good_getD {ps:List PV} {n:Nat} (g:ps.all (good n)=true) (j:Nat) (hj:j < ps.length):good n (ps.getD j .non)=true:=by
  rw [List.getD,List.getElem?_eq_getElem hj]
  exact (List.all_eq_true.mp g) _ (List.getElem_mem hj)
theorem peqL_range {ps qs:List PV}:((List.range (min ps.length qs.length)).all (fun j=>peq (ps.getD j .non) (qs.getD j .non)) && ps.length == qs.length)=peqL ps qs:=by
  by_cases e:ps.length=qs.length
  · rw [peqL_all e,<- e,Nat.min_self,beq_self_eq_true,Bool.and_true]
  · rw [peqL_len e,beq_eq_false_iff_ne.mpr e,Bool.and_false]
theorem eqAts:∀ (n:Nat) {A:Around} {p q:PV} {x y:V} {u v:Value},Inv X pins σ H s->good n p=true->good n q=true->A.units + n < cLine->Rep H ρ p x->RelV x u->Rep H ρ q y->RelV y v ->
    EqAt A s u v (peq p q)/\RcAt A s u v (peq p q)/\RcNeAt A s u v (!peq p q):=by
  intro n
  induction n with
  | zero=>
    intro A p q x y u v I gp gq hu rp ru rq rv
    have k1:=kd_of I gp rp ru
    have k2:=kd_of I gq rq rv
    have hu:A.units < cLine:=by omega
    cases k1 with
    | tup=>cases gp
    | lst p ps a vs its h=>rcases h with rfl | rfl <;> cases gp
    | non=>cases k2 with
      | tup=>cases gq
      | lst p ps a vs its h=>rcases h with rfl | rfl <;> cases gq
      | non=>exact ⟨EqAt.same _,RcAt.none_none,RcNeAt.none_none⟩
      | bl b=>exact ⟨EqAt.none_bool _,RcAt.none_bool _,RcNeAt.none_bool _⟩
      | int i t=>exact ⟨EqAt.none_int _ _,RcAt.none_int _ _,RcNeAt.none_int _ _⟩
      | str i t=>exact ⟨EqAt.none_str _ _,RcAt.none_str _ _,RcNeAt.none_str _ _⟩
    | bl a=>cases k2 with
      | tup=>cases gq
      | lst p ps a vs its h=>rcases h with rfl | rfl <;> cases gq
      | non=>exact ⟨EqAt.bool_none _,RcAt.bool_none _,RcNeAt.bool_none _⟩
      | bl b=>exact ⟨EqAt.bool_bool _ _,RcAt.bool_bool _ _,RcNeAt.bool_bool _ _⟩
      | int i t=>exact ⟨EqAt.bool_int _ _ _,RcAt.bool_int _ _ _,RcNeAt.bool_int _ _ _⟩
      | str i t=>exact ⟨EqAt.bool_str _ _ _,RcAt.bool_str _ _ _,RcNeAt.bool_str _ _ _⟩
    | int a at'=>cases k2 with
      | tup=>cases gq
      | lst p ps a vs its h=>rcases h with rfl | rfl <;> cases gq
      | non=>exact ⟨EqAt.int_none _ _,RcAt.int_none _ _,RcNeAt.int_none _ _⟩
      | bl b=>exact ⟨EqAt.int_bool _ _ _,RcAt.int_bool _ _ _,RcNeAt.int_bool _ _ _⟩
      | int i t=>exact ⟨EqAt.int_int _ _ _ _,RcAt.int_int _ _ _ _,RcNeAt.int_int _ _ _ _⟩
      | str i t=>exact ⟨EqAt.int_str _ _ _ _,RcAt.int_str _ _ _ _,RcNeAt.int_str _ _ _ _⟩
    | str a at'=>cases k2 with
      | tup=>cases gq
      | lst p ps a vs its h=>rcases h with rfl | rfl <;> cases gq
      | non=>exact ⟨EqAt.str_none _ _,RcAt.str_none _ _,RcNeAt.str_none _ _⟩
      | bl b=>exact ⟨EqAt.str_bool _ _ _,RcAt.str_bool _ _ _,RcNeAt.str_bool _ _ _⟩
      | int i t=>exact ⟨EqAt.str_int _ _ _ _,RcAt.str_int _ _ _ _,RcNeAt.str_int _ _ _ _⟩
      | str i t=>exact ⟨EqAt.str_str _ _ _ _,RcAt.str_str _ _ _ _,RcNeAt.str_str _ _ _ _⟩
  | succ n ih=>
    intro A p q x y u v I gp gq hu rp ru rq rv
    have k1:=kd_of I gp rp ru
    have k2:=kd_of I gq rq rv
    have hu0:A.units < cLine:=by omega
    have hin:A.in1.units + n < cLine:=by show A.units + 1 + n < cLine; omega
    cases k1 with
    | non=>cases k2 with
      | non=>exact ⟨EqAt.same _,RcAt.none_none,RcNeAt.none_none⟩
      | bl b=>exact ⟨EqAt.none_bool _,RcAt.none_bool _,RcNeAt.none_bool _⟩
      | int i t=>exact ⟨EqAt.none_int _ _,RcAt.none_int _ _,RcNeAt.none_int _ _⟩
      | str i t=>exact ⟨EqAt.none_str _ _,RcAt.none_str _ _,RcNeAt.none_str _ _⟩
      | tup ps a vs its ha r v1 p1=>exact ⟨EqAt.none_tuple p1 hu0,RcAt.none_tuple p1 hu0,RcNeAt.none_tuple p1 hu0⟩
      | lst p ps a vs its h r v1 p1=>rcases h with rfl | rfl <;> exact ⟨EqAt.none_list p1 hu0,RcAt.none_list p1 hu0,RcNeAt.none_list p1 hu0⟩
    | bl a=>cases k2 with
      | non=>exact ⟨EqAt.bool_none _,RcAt.bool_none _,RcNeAt.bool_none _⟩
      | bl b=>exact ⟨EqAt.bool_bool _ _,RcAt.bool_bool _ _,RcNeAt.bool_bool _ _⟩
      | int i t=>exact ⟨EqAt.bool_int _ _ _,RcAt.bool_int _ _ _,RcNeAt.bool_int _ _ _⟩
      | str i t=>exact ⟨EqAt.bool_str _ _ _,RcAt.bool_str _ _ _,RcNeAt.bool_str _ _ _⟩
      | tup ps a vs its ha r v1 p1=>exact ⟨EqAt.bool_tuple _ p1 hu0,RcAt.bool_tuple _ p1 hu0,RcNeAt.bool_tuple _ p1 hu0⟩
      | lst p ps a vs its h r v1 p1=>rcases h with rfl | rfl <;> exact ⟨EqAt.bool_list _ p1 hu0,RcAt.bool_list _ p1 hu0,RcNeAt.bool_list _ p1 hu0⟩
    | int a at'=>cases k2 with
      | non=>exact ⟨EqAt.int_none _ _,RcAt.int_none _ _,RcNeAt.int_none _ _⟩
      | bl b=>exact ⟨EqAt.int_bool _ _ _,RcAt.int_bool _ _ _,RcNeAt.int_bool _ _ _⟩
      | int i t=>exact ⟨EqAt.int_int _ _ _ _,RcAt.int_int _ _ _ _,RcNeAt.int_int _ _ _ _⟩
      | str i t=>exact ⟨EqAt.int_str _ _ _ _,RcAt.int_str _ _ _ _,RcNeAt.int_str _ _ _ _⟩
      | tup ps a vs its ha r v1 p1=>exact ⟨EqAt.int_tuple _ _ p1 hu0,RcAt.int_tuple _ _ p1 hu0,RcNeAt.int_tuple _ _ p1 hu0⟩
      | lst p ps a vs its h r v1 p1=>rcases h with rfl | rfl <;> exact ⟨EqAt.int_list _ _ p1 hu0,RcAt.int_list _ _ p1 hu0,RcNeAt.int_list _ _ p1 hu0⟩
    | str a at'=>cases k2 with
      | non=>exact ⟨EqAt.str_none _ _,RcAt.str_none _ _,RcNeAt.str_none _ _⟩
      | bl b=>exact ⟨EqAt.str_bool _ _ _,RcAt.str_bool _ _ _,RcNeAt.str_bool _ _ _⟩
      | int i t=>exact ⟨EqAt.str_int _ _ _ _,RcAt.str_int _ _ _ _,RcNeAt.str_int _ _ _ _⟩
      | str i t=>exact ⟨EqAt.str_str _ _ _ _,RcAt.str_str _ _ _ _,RcNeAt.str_str _ _ _ _⟩
      | tup ps a vs its ha r v1 p1=>exact ⟨EqAt.str_tuple _ _ p1 hu0,RcAt.str_tuple _ _ p1 hu0,RcNeAt.str_tuple _ _ p1 hu0⟩
      | lst p ps a vs its h r v1 p1=>rcases h with rfl | rfl <;> exact ⟨EqAt.str_list _ _ p1 hu0,RcAt.str_list _ _ p1 hu0,RcNeAt.str_list _ _ p1 hu0⟩
    | tup ps a vs its ha r v1 p1=>cases k2 with
      | non=>exact ⟨EqAt.tuple_none p1 hu0,RcAt.tuple_none p1 hu0,RcNeAt.tuple_none p1 hu0⟩
      | bl b=>exact ⟨EqAt.tuple_bool _ p1 hu0,RcAt.tuple_bool _ p1 hu0,RcNeAt.tuple_bool _ p1 hu0⟩
      | int i t=>exact ⟨EqAt.tuple_int _ _ p1 hu0,RcAt.tuple_int _ _ p1 hu0,RcNeAt.tuple_int _ _ p1 hu0⟩
      | str i t=>exact ⟨EqAt.tuple_str _ _ p1 hu0,RcAt.tuple_str _ _ p1 hu0,RcNeAt.tuple_str _ _ p1 hu0⟩
      | tup qs b us its2 hb r2 v2 p2=>
        have l1:its.toArray.size=ps.length:=by rw [List.size_toArray,<- v1.length,r.length]
        have l2:its2.toArray.size=qs.length:=by rw [List.size_toArray,<- v2.length,r2.length]
        have he:∀ j (h1:j < its.toArray.size) (h2:j < its2.toArray.size),EqAt A.in1 s its.toArray[j] its2.toArray[j] (peq (ps.getD j .non) (qs.getD j .non)):=fun j h1 h2=>by
          obtain ⟨x1,a1,b1⟩:=getD_of r v1 (j:=j) (by simpa using h1)
          obtain ⟨x2,a2,b2⟩:=getD_of r2 v2 (j:=j) (by simpa using h2)
          exact (ih I (good_getD gp j (by omega)) (good_getD gq j (by omega)) hin a1 b1 a2 b2).1
        have rc:=RcAt.tuples p1 p2 hu0 he
        have rn:=RcNeAt.tuples p1 p2 hu0 he
        rw [l1,l2,peqL_range] at rc rn
        refine ⟨?_,rc,rn⟩
        by_cases e:a=b
        · subst e
          have:peqL ps qs=true:=by
            rw [ha] at hb; cases hb
            exact repL_same gp gq r r2
          show EqAt A s _ _ (peqL ps qs)
          rw [this]
          exact EqAt.same _
        · exact EqAt.of_refs e rc
      | lst q qs b us its2 h r2 v2 p2=>rcases h with rfl | rfl <;> exact ⟨EqAt.tuple_list p1 p2 hu0,RcAt.tuple_list p1 p2 hu0,RcNeAt.tuple_list p1 p2 hu0⟩
    | lst p ps a vs its h r v1 p1=>cases k2 with
      | non=>rcases h with rfl | rfl <;> exact ⟨EqAt.list_none p1 hu0,RcAt.list_none p1 hu0,RcNeAt.list_none p1 hu0⟩
      | bl b=>rcases h with rfl | rfl <;> exact ⟨EqAt.list_bool _ p1 hu0,RcAt.list_bool _ p1 hu0,RcNeAt.list_bool _ p1 hu0⟩
      | int i t=>rcases h with rfl | rfl <;> exact ⟨EqAt.list_int _ _ p1 hu0,RcAt.list_int _ _ p1 hu0,RcNeAt.list_int _ _ p1 hu0⟩
      | str i t=>rcases h with rfl | rfl <;> exact ⟨EqAt.list_str _ _ p1 hu0,RcAt.list_str _ _ p1 hu0,RcNeAt.list_str _ _ p1 hu0⟩
      | tup qs b us its2 hb r2 v2 p2=>rcases h with rfl | rfl <;> exact ⟨EqAt.list_tuple p1 p2 hu0,RcAt.list_tuple p1 p2 hu0,RcNeAt.list_tuple p1 p2 hu0⟩
      | lst q qs b us its2 h2 r2 v2 p2=>
        have l1:its.toArray.size=ps.length:=by rw [List.size_toArray,<- v1.length,r.length]
        have l2:its2.toArray.size=qs.length:=by rw [List.size_toArray,<- v2.length,r2.length]
        have gp':ps.all (good n)=true:=by rcases h with rfl | rfl <;> exact gp
        have gq':qs.all (good n)=true:=by rcases h2 with rfl | rfl <;> exact gq
        have ep:peq p q=peqL ps qs:=by rcases h with rfl | rfl <;> rcases h2 with rfl | rfl <;> rfl
        have he:∀ j (h1:j < its.toArray.size) (h2:j < its2.toArray.size),EqAt A.in1 s its.toArray[j] its2.toArray[j] (peq (ps.getD j .non) (qs.getD j .non)):=fun j h1 h2=>by
          obtain ⟨x1,a1,b1⟩:=getD_of r v1 (j:=j) (by simpa using h1)
          obtain ⟨x2,a2,b2⟩:=getD_of r2 v2 (j:=j) (by simpa using h2)
          exact (ih I (good_getD gp' j (by omega)) (good_getD gq' j (by omega)) hin a1 b1 a2 b2).1
        rw [ep]
        have rcn:RcAt A s (.ref a) (.ref b) (peqL ps qs)/\RcNeAt A s (.ref a) (.ref b) (!peqL ps qs):=by
          by_cases e:ps.length=qs.length
          · have rc:=RcAt.lists p1 p2 (by rw [l1,l2,e]) hu0 he
            have rn:=RcNeAt.lists p1 p2 (by rw [l1,l2,e]) hu0 he
            rw [l1,<- peqL_all e] at rc rn
            exact ⟨rc,rn⟩
          · have e':(its.toArray.size != its2.toArray.size)=true:=by rw [l1,l2]; simpa using e
            rw [peqL_len e]
            exact ⟨RcAt.lists_lengths p1 p2 e' hu0,RcNeAt.lists_lengths p1 p2 e' hu0⟩
        refine ⟨?_,rcn.1,rcn.2⟩
        by_cases e:a=b
        · subst e
          have eq1:peq p q=true:=by
            have rp':=rp
            have rq':=rq
            have xa:x=.ref a:=by
              rcases h with rfl | rfl <;> (obtain ⟨b',_,rfl,_⟩:=rp; cases ru; rfl)
            have ya:y=.ref a:=by
              rcases h2 with rfl | rfl <;> (obtain ⟨b',_,rfl,_⟩:=rq; cases rv; rfl)
            subst xa; subst ya
            exact rep_same gp gq rp rq
          rw [<- ep,eq1]
          exact EqAt.same _
        · exact EqAt.of_refs e rcn.1
end
end Sm
namespace Sm
open PySem PySem.Spec L2
def lim:Nat:=1000000
theorem lim_le:lim<=sizeLine:=by decide
theorem le_lim {n:Nat} (h:n<=lim):n<=sizeLine:=Nat.le_trans h lim_le
def lstOf (st:Store):PV->Option (List PV)
  | .lst xs=>some xs
  | .ref i=>match st[i]? with
    | some (.lst xs)=>some xs
    | none=>none
  | _=>none
def listOf (st:Store):PV->Option (List PV)
  | .fro xs=>some xs
  | p=>lstOf st p
def seqOf (st:Store):PV->Option (List PV)
  | .tup xs=>some xs
  | p=>listOf st p
def der (st:Store):PV->PV
  | .ref i=>match st[i]? with
    | some (.lst xs)=>.lst xs
    | none=>.ref i
  | p=>p
section
variable {H:Hp} {ρ:Tk} {st:Store} {p:PV} {v:V} {xs:List PV}
theorem lst_at (R:Rel H ρ st) (r:Rep H ρ p v) (e:lstOf st p=some xs):∃ a vs,v=.ref a/\H a=some (.lst vs)/\RepL H ρ xs vs:=by
  cases p with
  | lst ys=>
    obtain ⟨a,vs,e1,e2,_,e3⟩:=r
    cases e
    exact ⟨a,vs,e1,e2,e3⟩
  | ref i=>
    obtain ⟨a,e1,e2⟩:=r
    simp only [lstOf] at e
    split at e
    · rename_i ys hs
      cases e
      obtain ⟨b,vs,f1,f2,f3⟩:=R.lst hs
      rw [e1] at f1; cases f1
      exact ⟨a,vs,e2,f2,f3⟩
    · cases e
  | _=>cases e
theorem list_at (R:Rel H ρ st) (r:Rep H ρ p v) (e:listOf st p=some xs):∃ a vs,v=.ref a/\Rd H a (.lst vs)/\RepL H ρ xs vs:=by
  cases p with
  | fro ys=>
    obtain ⟨a,vs,e1,e2,_,e3⟩:=r
    cases e
    exact ⟨a,vs,e1,e2,e3⟩
  | _=>
    obtain ⟨a,vs,e1,e2,e3⟩:=lst_at R r e
    exact ⟨a,vs,e1,.inl e2,e3⟩
theorem seq_at {K:PySem.W.Frag} (R:Rel H ρ st) (r:Rep H ρ p v) (e:seqOf st p=some xs):∃ (t:Bool) (a:Addr) (vs:List V),v=.ref a/\SqK K t H a vs/\RepL H ρ xs vs:=by
  cases p with
  | tup ys=>
    obtain ⟨a,vs,e1,e2,_,e3⟩:=r
    cases e
    exact ⟨true,a,vs,e1,show SqT K H a vs from SqT.of e2,e3⟩
  | _=>
    obtain ⟨a,vs,e1,e2,e3⟩:=list_at R r e
    exact ⟨false,a,vs,e1,show SqL K H a vs from .inl e2,e3⟩
theorem sqK_or {K:PySem.W.Frag} {t:Bool} {a:Addr} {vs:List V} (h:SqK K t H a vs):SqL K H a vs\/SqT K H a vs:=by
  cases t with
  | true=>exact .inr h
  | false=>exact .inl h
mutual
theorem rep_nil:∀ {n:Nat} {q:PV} {u:V},good n q=true->Rep H ρ q u->Rep H Tk.nil q u
  | _,.non,_,_,r=>r
  | _,.bl _,_,_,r=>r
  | _,.int _,_,_,r=>r
  | _,.str _,_,_,r=>r
  | 0,.tup _,_,g,_=>by cases g
  | 0,.lst _,_,g,_=>by cases g
  | 0,.fro _,_,g,_=>by cases g
  | n + 1,.tup _,_,g,⟨a,vs,e,h,_,r⟩=>⟨a,vs,e,h,Tk.not_nil _,repL_nil g r⟩
  | n + 1,.lst _,_,g,⟨a,vs,e,h,_,r⟩=>⟨a,vs,e,h,Tk.not_nil _,repL_nil g r⟩
  | n + 1,.fro _,_,g,⟨a,vs,e,h,_,r⟩=>⟨a,vs,e,h,Tk.not_nil _,repL_nil g r⟩
  | 0,.ref _,_,g,_=>by cases g
  | _ + 1,.ref _,_,g,_=>by cases g
  | 0,.dic,_,g,_=>by cases g
  | _ + 1,.dic,_,g,_=>by cases g
theorem repL_nil:∀ {n:Nat} {qs:List PV} {us:List V},qs.all (good n)=true->RepL H ρ qs us->RepL H Tk.nil qs us
  | _,[],_,_,r=>r
  | n,q :: qs,_,g,⟨v,r,e,h1,h2⟩=>by
    rw [List.all_cons,Bool.and_eq_true] at g
    exact ⟨v,r,e,rep_nil g.1 h1,repL_nil g.2 h2⟩
end
theorem der_rep (R:Rel H ρ st) {n:Nat} (g:good n (der st p)=true) (r:Rep H ρ p v):Rep H Tk.nil (der st p) v:=by
  cases p with
  | ref i=>
    obtain ⟨a,e1,e2⟩:=r
    simp only [der] at g ⊢
    split at g
    · rename_i ys hs
      obtain ⟨b,vs,f1,f2,f3⟩:=R.lst hs
      rw [e1] at f1; cases f1
      cases n with
      | zero=>cases g
      | succ n=>exact ⟨a,vs,e2,f2,Tk.not_nil _,repL_nil g f3⟩
    · cases n <;> cases g
  | _=>exact rep_nil g r
theorem new_tup {mg:Str->Option Value} {E:XK} {Q:VK} {ps:List PV} {vs:List V} (R:Rel H ρ st) (h:Acc mg E H ρ (QV Q) (.ok (.tup ps) st)) (r:RepL H ρ ps vs):∀ p,H p=none->Q (.ref p) (upd H p (.tup vs)):=
  fun p hp=>h _ ρ (Ext.add hp) (R.add hp) _ ⟨p,vs,rfl,upd_same,R.fresh hp,r.ext (Ext.add hp)⟩
theorem new_lst {mg:Str->Option Value} {E:XK} {Q:VK} {ps:List PV} {vs:List V} (R:Rel H ρ st) (h:Acc mg E H ρ (QV Q) (.ok (.lst ps) st)) (r:RepL H ρ ps vs):∀ p,H p=none->Q (.ref p) (upd H p (.lst vs)):=
  fun p hp=>h _ ρ (Ext.add hp) (R.add hp) _ ⟨p,vs,rfl,upd_same,R.fresh hp,r.ext (Ext.add hp)⟩
theorem now {mg:Str->Option Value} {E:XK} {Q:VK} {p:PV} (R:Rel H ρ st) (h:Acc mg E H ρ (QV Q) (.ok p st)) (r:Rep H ρ p v):Q v H:=h H ρ (Ext.refl _ _) R v r
end
section
variable {X:Cx} {E:XK} {pos:Pos}
def mVar (i:Nat):ME:=fun Γ st=>match Γ[i]? with
  | some (some p)=>.ok p st
  | _=>.stuck
def mC (p:PV):ME:=fun _ st=>.ok p st
theorem se_var (i:Nat) {x:Str} (hN:X.N[i]?=some x:=by rfl) (hv:Vis X.env.scope x:=by first | exact Or.inl rfl | exact Or.inr (Or.inl rfl) | exact Or.inr (Or.inr rfl)) (hd:(x == ("__debug__" : Str))=false:=by decide)
    (hcd:(x == ("__classdict__" : Str))=false:=by decide):SimE X E (.Name x pos) (mVar i):=⟨fun Γ σ H ρ st Q R G h=>WE.of (pe_var hN hv hd hcd) (by
  unfold mVar at h
  split at h
  · rename_i p e
    obtain ⟨v,e1,r⟩:=G.2 i p e
    exact ⟨v,e1,now R h r⟩
  · exact h.elim)⟩
theorem se_int {i:Int} {j:Nat}:SimE X E (.Constant (.int i) j pos) (mC (.int i)):=⟨fun Γ σ H ρ st Q R G h=>WE.of pe_int (now R h rfl)⟩
theorem se_bl {b:Bool} {j:Nat}:SimE X E (.Constant (.bool b) j pos) (mC (.bl b)):=⟨fun Γ σ H ρ st Q R G h=>WE.of pe_bl (now R h rfl)⟩
theorem se_str {x:Str} {j:Nat}:SimE X E (.Constant (.str x) j pos) (mC (.str x)):=⟨fun Γ σ H ρ st Q R G h=>WE.of pe_str (now R h rfl)⟩
theorem se_gint {x:Str} {i:Int} {t:Tok} (hg:Gl X x) (hm:X.mg x=some (.int i t)) (hd:(x == ("__debug__" : Str))=false:=by decide):SimE X E (.Name x pos) (mC (.int i)):=
  ⟨fun Γ σ H ρ st Q R G h=>WE.of (pe_glob hg hm (v:=.int i) ⟨t,rfl⟩ hd) (now R h rfl)⟩
variable {a b c:Expr} {ma mb mc:ME}
def mOp (o:OP) (ma mb:ME):ME:=fun Γ st=>(ma Γ st).bind fun x st1=>(mb Γ st1).bind fun y st2=>o st2 x y
theorem bin_run {f:Value->Value->Sem Value} {o:OP} {Γ:Gam} {σ:St} {H:Hp} {ρ:Tk} {st:Store} {P:PV->Store->Hp->Tk->Prop} {Q:VK} (ho:OpS X E f o) (ha:SimE X E a ma) (hb:SimE X E b mb) (R:Rel H ρ st) (G:EnvR H ρ Γ σ) (h:Acc X.mg E H ρ P (mOp o ma mb Γ st))
    (k:∀ p st1 H1 ρ1 v,Ext H ρ H1 ρ1->Rel H1 ρ1 st1->Rep H1 ρ1 p v->P p st1 H1 ρ1->Q v H1):tOp (WO X f) (WE X a) (WE X b) σ H Q:=by
  refine ha.use R G h.bind fun p st1 H1 ρ1 v x1 R1 G1 r1 h1=>?_
  refine hb.use R1 G1 h1.bind fun q st2 H2 ρ2 u x2 R2 G2 r2 h2=>?_
  exact ho.use R2 (r1.ext x2) r2 h2 fun w st3 H3 ρ3 z x3 R3 r3 p3=>k w st3 H3 ρ3 z (x1.trans (x2.trans x3)) R3 r3 p3
theorem se_op {op:Operator} {o:OP} (ho:OpS X E (binaryOp op) o) (ha:SimE X E a ma) (hb:SimE X E b mb):SimE X E (.BinOp a op b pos) (mOp o ma mb):=
  ⟨fun Γ σ H ρ st Q R G h=>WE.of (pe_op op_w pe_w pe_w) (bin_run ho ha hb R G h fun _ _ _ _ v _ _ r q=>q v r)⟩
theorem se_cmp {op:CmpOp} {o:OP} (ho:OpS X E (compareOp op) o) (ha:SimE X E a ma) (hb:SimE X E b mb) (hm:behindInMarks op b=false:=by first | exact nomark _ | rfl):SimE X E (.Compare a [op] [b] pos) (mOp o ma mb):=
  ⟨fun Γ σ H ρ st Q R G h=>WE.of (pe_cmpR op_w pe_w pe_w hm) (bin_run ho ha hb R G h fun _ _ _ _ v _ _ r q=>q v r)⟩
def asB (p:PV) (st:Store):Res Bool:=match p with
  | .bl k=>.ok k st
  | _=>.stuck
def toB (m:ME):Gam->Store->Res Bool:=fun Γ st=>(m Γ st).bind asB
theorem acc_b {mg:Str->Option Value} {H:Hp} {ρ:Tk} {st:Store} {p:PV} {v:V} {P:Bool->Store->Hp->Tk->Prop} (R:Rel H ρ st) (r:Rep H ρ p v) (h:Acc mg E H ρ P (asB p st)):∃ k,v=.bl k/\P k st H ρ:=by
  cases p with
  | bl k=>exact ⟨k,r,h H ρ (Ext.refl _ _) R⟩
  | _=>exact h.elim
theorem st_cmp {op:CmpOp} {o:OP} (ho:OpS X E (compareOp op) o) (ha:SimE X E a ma) (hb:SimE X E b mb) (hm:behindInMarks op b=false:=by first | exact nomark _ | rfl):SimT X E (.Compare a [op] [b] pos) (toB (mOp o ma mb)):=
  ⟨fun Γ σ H ρ st Q R G h=>WT.of (pt_cmpR op_w pe_w pe_w hm) (bin_run ho ha hb R G h.bind fun _ st1 _ _ v _ R1 r q=>by
    obtain ⟨k,e,z⟩:=acc_b R1 r q
    exact ⟨k,e,z⟩)⟩
theorem st_val {e:Expr} {m:ME} (h:SimE X E e m) (he:∀ whole,isTrue e X.env whole=(do let v <- whole; standAt e.pos; holding [v] (truthy v)):=by intro _; rfl):SimT X E e (toB m):=
  ⟨fun Γ σ H ρ st Q R G hq=>WT.of (pt_val pe_w he) (h.use R G hq.bind fun p st1 H1 ρ1 v x1 R1 G1 r1 h1=>by
    obtain ⟨k,e,z⟩:=acc_b R1 r1 h1
    exact ⟨k,e,z⟩)⟩
def mChain (o o':OP) (ma mb mc:ME):ME:=fun Γ st=>(ma Γ st).bind fun x st1=>(mb Γ st1).bind fun y st2=>(o st2 x y).bind fun k st3=>match k with
  | .bl true=>(mc Γ st3).bind fun z st4=>o' st4 y z
  | .bl false=>.ok (.bl false) st3
  | _=>.stuck
theorem chain_run {op op':CmpOp} {o o':OP} {Γ:Gam} {σ:St} {H:Hp} {ρ:Tk} {st:Store} {P:PV->Store->Hp->Tk->Prop} {Q:VK} (ho:OpS X E (compareOp op) o) (ho':OpS X E (compareOp op') o') (ha:SimE X E a ma) (hb:SimE X E b mb) (hc:SimE X E c mc) (R:Rel H ρ st) (G:EnvR H ρ Γ σ) (h:Acc X.mg E H ρ P (mChain o o' ma mb mc Γ st))
    (k:∀ p st1 H1 ρ1 v,Ext H ρ H1 ρ1->Rel H1 ρ1 st1->Rep H1 ρ1 p v->P p st1 H1 ρ1->Q v H1):tChain (WO X (compareOp op)) (WO X (compareOp op')) (WE X a) (WE X b) (WE X c) σ H Q:=by
  refine ha.use R G h.bind fun p st1 H1 ρ1 v x1 R1 G1 r1 h1=>?_
  refine hb.use R1 G1 h1.bind fun q st2 H2 ρ2 u x2 R2 G2 r2 h2=>?_
  refine ho.use R2 (r1.ext x2) r2 h2.bind fun w st3 H3 ρ3 z x3 R3 r3 h3=>?_
  cases w with
  | bl b=>
    refine ⟨b,r3,?_⟩
    cases b with
    | true=>
      rw [if_pos rfl]
      refine hc.use R3 (G2.ext x3) h3.bind fun y st4 H4 ρ4 yv x4 R4 G4 r4 h4=>?_
      exact ho'.use R4 (r2.ext (x3.trans x4)) r4 h4 fun w st5 H5 ρ5 z x5 R5 r5 p5=>k w st5 H5 ρ5 z (x1.trans (x2.trans (x3.trans (x4.trans x5)))) R5 r5 p5
    | false=>
      rw [if_neg Bool.false_ne_true]
      exact k (.bl false) _ H3 ρ3 _ (x1.trans (x2.trans x3)) R3 rfl (h3 H3 ρ3 (Ext.refl _ _) R3)
  | _=>exact h3.elim
theorem se_chain {op op':CmpOp} {o o':OP} (ho:OpS X E (compareOp op) o) (ho':OpS X E (compareOp op') o') (ha:SimE X E a ma) (hb:SimE X E b mb) (hc:SimE X E c mc) (hm:lastMarks [op,op'] [b,c]=false:=by with_unfolding_all rfl):SimE X E (.Compare a [op,op'] [b,c] pos) (mChain o o' ma mb mc):=
  ⟨fun Γ σ H ρ st Q R G h=>WE.of (pe_chain op_w op_w pe_w pe_w pe_w hm) (chain_run ho ho' ha hb hc R G h fun _ _ _ _ v _ _ r q=>q v r)⟩
theorem st_chain {op op':CmpOp} {o o':OP} (ho:OpS X E (compareOp op) o) (ho':OpS X E (compareOp op') o') (ha:SimE X E a ma) (hb:SimE X E b mb) (hc:SimE X E c mc) (hm:lastMarks [op,op'] [b,c]=false:=by with_unfolding_all rfl):SimT X E (.Compare a [op,op'] [b,c] pos) (toB (mChain o o' ma mb mc)):=
  ⟨fun Γ σ H ρ st Q R G h=>WT.of (pt_chain op_w op_w pe_w pe_w pe_w hm) (chain_run ho ho' ha hb hc R G h.bind fun _ st1 _ _ v _ R1 r q=>by
    obtain ⟨k,e,z⟩:=acc_b R1 r q
    exact ⟨k,e,z⟩)⟩
variable {rest:List Expr}
def mAnd (ma mb:ME):ME:=fun Γ st=>(ma Γ st).bind fun x st1=>match x with
  | .bl true=>mb Γ st1
  | .bl false=>.ok (.bl false) st1
  | _=>.stuck
def mOr (ma mb:ME):ME:=fun Γ st=>(ma Γ st).bind fun x st1=>match x with
  | .bl true=>.ok (.bl true) st1
  | .bl false=>mb Γ st1
  | _=>.stuck
def mNot (ma:ME):ME:=fun Γ st=>(ma Γ st).bind fun x st1=>match x with
  | .bl k=>.ok (.bl (!k)) st1
  | _=>.stuck
theorem se_one {op:BoolOp} (ha:SimE X E a ma):SimE X E (.BoolOp op [a] pos) ma:=⟨fun Γ σ H ρ st Q R G h=>WE.of (pe_one pe_w) (ha.use R G h fun _ _ _ _ v _ _ _ r q=>q v r)⟩
theorem se_and (ha:SimE X E a ma) (hb:SimE X E (.BoolOp .And (b :: rest) pos) mb):SimE X E (.BoolOp .And (a :: b :: rest) pos) (mAnd ma mb):=
  ⟨fun Γ σ H ρ st Q R G h=>WE.of (pe_and pe_w pe_w) (ha.use R G h.bind fun p st1 H1 ρ1 v x1 R1 G1 r1 h1=>by
    cases p with
    | bl k=>
      refine ⟨k,r1,?_⟩
      cases k with
      | true=>rw [if_pos rfl]; exact hb.use R1 G1 h1 fun _ _ _ _ v _ _ _ r q=>q v r
      | false=>rw [if_neg Bool.false_ne_true]; exact now R1 h1 rfl
    | _=>exact h1.elim)⟩
theorem se_or (ha:SimE X E a ma) (hb:SimE X E (.BoolOp .Or (b :: rest) pos) mb):SimE X E (.BoolOp .Or (a :: b :: rest) pos) (mOr ma mb):=
  ⟨fun Γ σ H ρ st Q R G h=>WE.of (pe_or pe_w pe_w) (ha.use R G h.bind fun p st1 H1 ρ1 v x1 R1 G1 r1 h1=>by
    cases p with
    | bl k=>
      refine ⟨k,r1,?_⟩
      cases k with
      | true=>rw [if_pos rfl]; exact now R1 h1 rfl
      | false=>rw [if_neg Bool.false_ne_true]; exact hb.use R1 G1 h1 fun _ _ _ _ v _ _ _ r q=>q v r
    | _=>exact h1.elim)⟩
theorem se_not (ha:SimE X E a ma):SimE X E (.UnaryOp .Not a pos) (mNot ma):=
  ⟨fun Γ σ H ρ st Q R G h=>WE.of (pe_not pe_w) (ha.use R G h.bind fun p st1 H1 ρ1 v x1 R1 G1 r1 h1=>by
    cases p with
    | bl k=>exact ⟨k,r1,now R1 h1 rfl⟩
    | _=>exact h1.elim)⟩
def mNeg (ma:ME):ME:=fun Γ st=>(ma Γ st).bind fun x st1=>match x with
  | .int k=>.ok (.int (-k)) st1
  | _=>.stuck
theorem se_neg (ha:SimE X E a ma):SimE X E (.UnaryOp .USub a pos) (mNeg ma):=
  ⟨fun Γ σ H ρ st Q R G h=>WE.of (pe_un un_neg pe_w) (ha.use R G h.bind fun p st1 H1 ρ1 v x1 R1 G1 r1 h1=>by
    cases p with
    | int k=>exact ⟨k,r1,now R1 h1 rfl⟩
    | _=>exact h1.elim)⟩
abbrev MT:=Gam->Store->Res Bool
variable {ta tb:MT}
def tAndM (ta tb:MT):MT:=fun Γ st=>(ta Γ st).bind fun k st1=>if k=true then tb Γ st1 else .ok false st1
def tOrM (ta tb:MT):MT:=fun Γ st=>(ta Γ st).bind fun k st1=>if k=true then .ok true st1 else tb Γ st1
def tNotM (ta:MT):MT:=fun Γ st=>(ta Γ st).bind fun k st1=>.ok (!k) st1
theorem SimW.t {e:Expr} (h:SimW X E e ta):SimT X E e ta:=⟨fun Γ σ H ρ st Q R G q pins s I=>h.run Γ σ H ρ st Q R G q _ pins s I⟩
theorem sw_and1 (ha:SimT X E a ta):SimW X E (.BoolOp .And [a] pos) ta:=⟨fun Γ σ H ρ st Q R G h=>WW.of (pw_and1 pt_w) (ha.use R G h fun _ _ _ _ _ _ _ q=>q)⟩
theorem sw_or1 (ha:SimT X E a ta):SimW X E (.BoolOp .Or [a] pos) ta:=⟨fun Γ σ H ρ st Q R G h=>WW.of (pw_or1 pt_w) (ha.use R G h fun _ _ _ _ _ _ _ q=>q)⟩
theorem sw_and (ha:SimT X E a ta) (hb:SimW X E (.BoolOp .And (b :: rest) pos) tb):SimW X E (.BoolOp .And (a :: b :: rest) pos) (tAndM ta tb):=
  ⟨fun Γ σ H ρ st Q R G h=>WW.of (pw_and pt_w pw_w) (ha.use R G h.bind fun k st1 H1 ρ1 x1 R1 G1 h1=>by
    cases k with
    | true=>rw [if_pos rfl] at h1 ⊢; exact hb.use R1 G1 h1 fun _ _ _ _ _ _ _ q=>q
    | false=>rw [if_neg Bool.false_ne_true] at h1 ⊢; exact h1 H1 ρ1 (Ext.refl _ _) R1)⟩
theorem sw_or (ha:SimT X E a ta) (hb:SimW X E (.BoolOp .Or (b :: rest) pos) tb):SimW X E (.BoolOp .Or (a :: b :: rest) pos) (tOrM ta tb):=
  ⟨fun Γ σ H ρ st Q R G h=>WW.of (pw_or pt_w pw_w) (ha.use R G h.bind fun k st1 H1 ρ1 x1 R1 G1 h1=>by
    cases k with
    | true=>rw [if_pos rfl] at h1 ⊢; exact h1 H1 ρ1 (Ext.refl _ _) R1
    | false=>rw [if_neg Bool.false_ne_true] at h1 ⊢; exact hb.use R1 G1 h1 fun _ _ _ _ _ _ _ q=>q)⟩
theorem st_not (ha:SimT X E a ta):SimT X E (.UnaryOp .Not a pos) (tNotM ta):=
  ⟨fun Γ σ H ρ st Q R G h=>WT.of (pt_not pt_w) (ha.use R G h.bind fun k st1 H1 ρ1 x1 R1 G1 h1=>h1 H1 ρ1 (Ext.refl _ _) R1)⟩
def mIf (tc:MT) (ma mb:ME):ME:=fun Γ st=>(tc Γ st).bind fun k st1=>if k=true then ma Γ st1 else mb Γ st1
theorem se_if (hc:SimT X E c ta) (ha:SimE X E a ma) (hb:SimE X E b mb):SimE X E (.IfExp c a b pos) (mIf ta ma mb):=
  ⟨fun Γ σ H ρ st Q R G h=>WE.of (pe_ifExp pt_w pe_w pe_w) (hc.use R G h.bind fun k st1 H1 ρ1 x1 R1 G1 h1=>by
    cases k with
    | true=>rw [if_pos rfl] at h1 ⊢; exact ha.use R1 G1 h1 fun _ _ _ _ v _ _ _ r q=>q v r
    | false=>rw [if_neg Bool.false_ne_true] at h1 ⊢; exact hb.use R1 G1 h1 fun _ _ _ _ v _ _ _ r q=>q v r)⟩
variable {e:Expr} {es:List Expr} {m:ME} {mr:Gam->Store->Res (List PV)}
def mNil:Gam->Store->Res (List PV):=fun _ st=>.ok [] st
def mCons (m:ME) (mr:Gam->Store->Res (List PV)):Gam->Store->Res (List PV):=fun Γ st=>(m Γ st).bind fun p st1=>(mr Γ st1).bind fun ps st2=>.ok (p :: ps) st2
theorem sa_nil:SimA X E [] mNil:=⟨fun Γ σ H ρ st Q R G h=>WA.of pa_nil (h H ρ (Ext.refl _ _) R [] rfl)⟩
theorem sa_cons (ha:SimE X E e m) (hr:SimA X E es mr) (hs:starEach (e :: es) X.env=(false,eval e X.env) :: starEach es X.env:=by rfl):SimA X E (e :: es) (mCons m mr):=
  ⟨fun Γ σ H ρ st Q R G h=>WA.of (pa_cons pe_w pa_w hs) (ha.use R G h.bind fun p st1 H1 ρ1 v x1 R1 G1 r1 h1=>hr.use R1 G1 h1.bind fun ps st2 H2 ρ2 vs x2 R2 G2 r2 h2=>
    h2 H2 ρ2 (Ext.refl _ _) R2 (v :: vs) ⟨v,vs,rfl,r1.ext x2,r2⟩)⟩
def mTup (mr:Gam->Store->Res (List PV)):ME:=fun Γ st=>(mr Γ st).bind fun ps st1=>if ps.length<=lim then .ok (.tup ps) st1 else .stuck
def mLst (mr:Gam->Store->Res (List PV)):ME:=fun Γ st=>(mr Γ st).bind fun ps st1=>if ps.length<=lim then .ok (.lst ps) st1 else .stuck
theorem se_tup {k:Nat} (h:SimA X E es mr):SimE X E (.Tuple es k pos) (mTup mr):=
  ⟨fun Γ σ H ρ st Q R G hq=>WE.of (pe_tup pa_w) (h.use R G hq.bind fun ps st1 H1 ρ1 vs x1 R1 G1 r1 h1=>by
    by_cases hl:ps.length<=lim
    · rw [if_pos hl] at h1
      exact ⟨by rw [<- r1.length]; exact le_lim hl,new_tup R1 h1 r1⟩
    · rw [if_neg hl] at h1; exact h1.elim)⟩
theorem se_lst (h:SimA X E es mr):SimE X E (.List es pos) (mLst mr):=
  ⟨fun Γ σ H ρ st Q R G hq=>WE.of (pe_lst pa_w) (h.use R G hq.bind fun ps st1 H1 ρ1 vs x1 R1 G1 r1 h1=>by
    by_cases hl:ps.length<=lim
    · rw [if_pos hl] at h1
      exact ⟨by rw [<- r1.length]; exact le_lim hl,new_lst R1 h1 r1⟩
    · rw [if_neg hl] at h1; exact h1.elim)⟩
end
end Sm
namespace HT
open PySem PySem.Spec PyProof.Rows
section
variable {prog:Program} {w:World} {A:Around} {E:Value->Shared->Prop} {s:Shared}
theorem getItem_tuple_whole {t sl:Addr} {items:Array Value} {vl vu:Value} {lo hi:Option Int} {Q:Value->Shared->Prop} (ht:IsTup s.heap t items) (hs:s.heap.IsSliceOf sl vl vu .none) (pl:IsPart vl lo) (pu:IsPart vu hi)
    (hw:sIx items.size 0 lo=0/\sIx items.size items.size hi=items.size)
    (h:Q (.ref t) s):wpAny (model prog w) A (getItem (.ref t) (.ref sl)) Q E s:=by
  obtain ⟨os,hos,hcs,hds⟩:=id hs
  have hTs:s.TypeIs (.ref sl) "slice" := ⟨os,hos,hcs⟩
  unfold getItem
  try with_reducible refine wpAny_holding ?_
  first | refine wpAny_bind (wpAny_pure ?_) | skip
  refine wpAny_bind (wpAny_sequenceKey ht.typeIs (by decide) ?_)
  refine wpAny_bind (wpAny_callSpecial?_slot (name:=Str.ofString "__getitem__") ht.typeIs PyProof.Rows.slot_tuple_getitem
    (wpAny_call_entry PyProof.Rows.slot_tuple_getitem ht.typeIs entry_tuple_getitem ?_ (args_tuple_getitem _ _)))
  show wpAny _ _ (Builtin.Tuple.tupleItemsOf (.ref t) >>= _) _ _ s
  refine wpAny_bind (tupleItemsOf_ ht ?_)
  refine wpAny_bind (wpAny_typeOf hTs ?_)
  rw [if_pos (by decide)]
  refine wpAny_bind (sliceApplied_gen hs pl pu ?_)
  have hyes:(((sIx items.size 0 lo:Nat):Int) == 0 && (1:Int) == 1 && (sIx items.size items.size hi - sIx items.size 0 lo) == items.size)=true:=by
    rw [hw.1,hw.2]; simp
  show wpAny _ _ (if (((sIx items.size 0 lo:Nat):Int) == 0 && (1:Int) == 1 && (sIx items.size items.size hi - sIx items.size 0 lo) == items.size)=true then _ else _) _ _ s
  rw [if_pos hyes]
  refine wpAny_bind (wpAny_bind (wpAny_typeOf ht.typeIs (wpAny_pure ?_)))
  rw [if_pos (by rfl)]
  exact wpAny_bind (wpAny_rule (wpAny_pure ⟨_,rfl,wpAny_pure h⟩))
end
end HT
namespace L2
open PySem PySem.Spec PyProof.Rows
def rSlW (K:PySem.W.Frag):V->Option Int->Option Int->Hp->VK->Prop:=fun x lo hi H Q=>∃ a xs,x=.ref a/\SqT K H a xs /\
  (HT.sIx xs.length 0 lo=0/\HT.sIx xs.length xs.length hi=xs.length)/\Q (.ref a) H
theorem sl_whole {X:Cx}:SlR X (rSlW X.K):=by
  intro pins s σ H x v vl vu lo hi sl Q I rx hs pl pu h
  obtain ⟨a,xs,rfl,hx,hw,q⟩:=h
  cases rx
  obtain ⟨its,r,ht,hz⟩:=I.tuple hx
  have hlen:its.toArray.size=xs.length:=by rw [List.size_toArray]; exact r.length.symm
  refine ⟨"tuple",_,PyProof.Rows.slot_tuple_getitem.lookup,ht.typeIs,?_⟩
  exact HT.getItem_tuple_whole ht hs pl pu (by rw [hlen]; exact hw) ⟨.ref a,H,I,rfl,q⟩
end L2
namespace Sm
open PySem PySem.Spec L2
section
variable {X:Cx} {E:XK} {pos:Pos}
def oI (g:Int->Int->PV):OP:=fun st p q=>match p,q with
  | .int a,.int b=>.ok (g a b) st
  | _,_=>.stuck
def oAdd:OP:=fun st p q=>match p,q with
  | .int a,.int b=>.ok (.int (a + b)) st
  | .str a,.str b=>if a.length + b.length<=lim then .ok (.str (a ++ b)) st else .stuck
  | .tup xs,.tup ys=>if xs.length + ys.length<=lim then .ok (.tup (xs ++ ys)) st else .stuck
  | p,q=>match lstOf st p,lstOf st q with
    | some xs,some ys=>if xs.length + ys.length<=lim then .ok (.lst (xs ++ ys)) st else .stuck
    | _,_=>.stuck
theorem os_add:OpS X E (binaryOp .Add) oAdd:=⟨fun H ρ st p q x y Q R rp rq h=>by
  unfold oAdd at h
  split at h
  · cases rp; cases rq
    exact WO.of op_add ⟨_,_,rfl,rfl,now R h rfl⟩
  · cases rp; cases rq
    split at h
    · rename_i hl
      exact WO.of op_add_str ⟨_,_,rfl,rfl,le_lim hl,now R h rfl⟩
    · exact h.elim
  · split at h
    · rename_i xs ys hl
      obtain ⟨a,vs,rfl,ha,na,ra⟩:=rp
      obtain ⟨b,us,rfl,hb,nb,rb⟩:=rq
      refine WO.of op_cat2 ?_
      by_cases e:xs=[]
      · subst e
        cases ra
        exact .inr ⟨a,b,us,rfl,rfl,SqT.of ha,SqT.of hb,now R h ⟨b,us,rfl,hb,nb,rb⟩⟩
      · refine .inl ⟨a,b,vs,us,rfl,rfl,SqT.of ha,SqT.of hb,fun z=>e ?_,by rw [<- ra.length,<- rb.length]; exact le_lim hl,fun z=>?_,fun z=>new_tup R h (ra.append rb)⟩
        · subst z
          cases xs with
          | nil=>rfl
          | cons _ _=>have:=ra.length; simp at this
        · subst z
          have:ys=[]:=by
            cases ys with
            | nil=>rfl
            | cons _ _=>have:=rb.length; simp at this
          subst this
          rw [List.append_nil] at h
          exact now R h ⟨a,vs,rfl,ha,na,ra⟩
    · exact h.elim
  · split at h
    · rename_i xs ys e1 e2
      split at h
      · rename_i hl
        obtain ⟨a,vs,rfl,ha,ra⟩:=lst_at R rp e1
        obtain ⟨b,us,rfl,hb,rb⟩:=lst_at R rq e2
        exact WO.of op_cat ⟨a,b,vs,us,rfl,rfl,ha,hb,by rw [<- ra.length,<- rb.length]; exact le_lim hl,new_lst R h (ra.append rb)⟩
      · exact h.elim
    · exact h.elim⟩
theorem os_sub:OpS X E (binaryOp .Sub) (oI fun a b=>.int (a - b)):=⟨fun H ρ st p q x y Q R rp rq h=>by
  unfold oI at h
  split at h
  · cases rp; cases rq
    exact WO.of op_sub ⟨_,_,rfl,rfl,now R h rfl⟩
  · exact h.elim⟩
def oMul:OP:=fun st p q=>match p,q with
  | .int a,.int b=>if (-(2 ^ 64) < a/\a < 2 ^ 64)\/(-(2 ^ 64) < b/\b < 2 ^ 64) then .ok (.int (a * b)) st else .stuck
  | .tup xs,.int b=>if xs ≠ []/\1<=b/\xs.length * b.toNat<=4096 then .ok (.tup (List.replicate b.toNat xs).flatten) st else .stuck
  | p,.int b=>match lstOf st p with
    | some xs=>if -(2 ^ 63)<=b/\b < 2 ^ 63/\xs.length * b.toNat<=lim then .ok (.lst (List.replicate b.toNat xs).flatten) st else .stuck
    | none=>.stuck
  | _,_=>.stuck
theorem os_mul:OpS X E (binaryOp .Mult) oMul:=⟨fun H ρ st p q x y Q R rp rq h=>by
  unfold oMul at h
  split at h
  · cases rp; cases rq
    split at h
    · rename_i hc
      exact WO.of op_mul ⟨_,_,rfl,rfl,hc,now R h rfl⟩
    · exact h.elim
  · cases rq
    split at h
    · rename_i xs b hc
      obtain ⟨a,vs,rfl,ha,na,ra⟩:=rp
      refine WO.of op_repT ⟨a,b,vs,rfl,rfl,SqT.of ha,fun z=>hc.1 ?_,hc.2.1,by rw [<- ra.length]; exact hc.2.2,fun z=>?_,fun z=>new_tup R h (ra.rep _)⟩
      · subst z
        cases xs with
        | nil=>rfl
        | cons _ _=>have:=ra.length; simp at this
      · subst z
        have e1:(List.replicate (Int.toNat 1) xs).flatten=xs:=by simp
        rw [e1] at h
        exact now R h ⟨a,vs,rfl,ha,na,ra⟩
    · exact h.elim
  · cases rq
    split at h
    · rename_i xs e1
      split at h
      · rename_i hc
        obtain ⟨a,vs,rfl,ha,ra⟩:=lst_at R rp e1
        exact WO.of op_rep ⟨a,_,vs,rfl,rfl,ha,hc.1,hc.2.1,by rw [<- ra.length]; exact le_lim hc.2.2,new_lst R h (ra.rep _)⟩
      · exact h.elim
    · exact h.elim
  · exact h.elim⟩
def oMod:OP:=fun st p q=>match p,q with
  | .int a,.int b=>if 0 < b then .ok (.int (a % b)) st else .stuck
  | _,_=>.stuck
theorem os_mod:OpS X E (binaryOp .Mod) oMod:=⟨fun H ρ st p q x y Q R rp rq h=>by
  unfold oMod at h
  split at h
  · cases rp; cases rq
    split at h
    · rename_i hc
      exact WO.of op_mod ⟨_,_,rfl,rfl,hc,now R h rfl⟩
    · exact h.elim
  · exact h.elim⟩
def oDiv:OP:=fun st p q=>match p,q with
  | .int a,.int b=>if 0 < b/\b < 1073741824 then .ok (.int (a / b)) st else .stuck
  | _,_=>.stuck
theorem os_div:OpS X E (binaryOp .FloorDiv) oDiv:=⟨fun H ρ st p q x y Q R rp rq h=>by
  unfold oDiv at h
  split at h
  · cases rp; cases rq
    split at h
    · rename_i hc
      exact WO.of op_fdiv ⟨_,_,rfl,rfl,hc,now R h rfl⟩
    · exact h.elim
  · exact h.elim⟩
def oPow:OP:=fun st p q=>match p,q with
  | .int a,.int b=>if 0<=b/\b<=1000000/\a.natAbs < 2 ^ 64 then .ok (.int (a ^ b.toNat)) st else .stuck
  | _,_=>.stuck
theorem os_pow:OpS X E (binaryOp .Pow) oPow:=⟨fun H ρ st p q x y Q R rp rq h=>by
  unfold oPow at h
  split at h
  · cases rp; cases rq
    split at h
    · rename_i hc
      exact WO.of op_pow ⟨_,_,rfl,rfl,hc,now R h rfl⟩
    · exact h.elim
  · exact h.elim⟩
theorem oI_cmp {op:CmpOp} {g:Int->Int->Bool} (ho:OpR X (compareOp op) (rI0 fun i j=>.bl (g i j))):OpS X E (compareOp op) (oI fun a b=>.bl (g a b)):=⟨fun H ρ st p q x y Q R rp rq h=>by
  unfold oI at h
  split at h
  · cases rp; cases rq
    exact WO.of ho ⟨_,_,rfl,rfl,now R h rfl⟩
  · exact h.elim⟩
theorem os_le:OpS X E (compareOp .LtE) (oI fun a b=>.bl (decide (a<=b))):=oI_cmp op_le
theorem os_gt:OpS X E (compareOp .Gt) (oI fun a b=>.bl (decide (b < a))):=oI_cmp op_gt
theorem os_ge:OpS X E (compareOp .GtE) (oI fun a b=>.bl (decide (b<=a))):=oI_cmp op_ge
def intsOf:List PV->Option (List Int)
  | []=>some []
  | .int i :: ps=>(intsOf ps).map (i :: ·)
  | _ :: _=>none
def blsOf:List PV->Option (List Bool)
  | []=>some []
  | .bl i :: ps=>(blsOf ps).map (i :: ·)
  | _ :: _=>none
theorem ints_map (ns:List Int):intsOf (ns.map .int)=some ns:=by
  induction ns with
  | nil=>rfl
  | cons n ns ih=>rw [List.map_cons,intsOf,ih]; rfl
theorem bls_map (ns:List Bool):blsOf (ns.map .bl)=some ns:=by
  induction ns with
  | nil=>rfl
  | cons n ns ih=>rw [List.map_cons,blsOf,ih]; rfl
theorem ints_eq:∀ {ps:List PV} {ns:List Int},intsOf ps=some ns->ps=ns.map .int
  | [],ns,h=>by cases h; rfl
  | .int i :: ps,ns,h=>by
    rw [intsOf] at h
    cases e:intsOf ps with
    | none=>rw [e] at h; cases h
    | some ms=>rw [e] at h; cases h; rw [ints_eq e]; rfl
  | .non :: _,_,h | .bl _ :: _,_,h | .str _ :: _,_,h | .tup _ :: _,_,h | .lst _ :: _,_,h | .fro _ :: _,_,h | .ref _ :: _,_,h | .dic :: _,_,h=>by cases h
theorem bls_eq:∀ {ps:List PV} {ns:List Bool},blsOf ps=some ns->ps=ns.map .bl
  | [],ns,h=>by cases h; rfl
  | .bl i :: ps,ns,h=>by
    rw [blsOf] at h
    cases e:blsOf ps with
    | none=>rw [e] at h; cases h
    | some ms=>rw [e] at h; cases h; rw [bls_eq e]; rfl
  | .non :: _,_,h | .int _ :: _,_,h | .str _ :: _,_,h | .tup _ :: _,_,h | .lst _ :: _,_,h | .fro _ :: _,_,h | .ref _ :: _,_,h | .dic :: _,_,h=>by cases h
def oLt:OP:=fun st p q=>match p,q with
  | .int a,.int b=>.ok (.bl (decide (a < b))) st
  | .tup xs,.tup ys=>match intsOf xs,intsOf ys with
    | some ns,some ms=>.ok (.bl (HT.lexLt ns ms)) st
    | _,_=>.stuck
  | _,_=>.stuck
theorem os_lt (hu:X.A.units + 64 < cLine):OpS X E (compareOp .Lt) oLt:=⟨fun H ρ st p q x y Q R rp rq h=>by
  unfold oLt at h
  split at h
  · cases rp; cases rq
    exact WO.of op_lt ⟨_,_,rfl,rfl,now R h rfl⟩
  · split at h
    · rename_i ns ms e1 e2
      obtain ⟨a,vs,rfl,ha,na,ra⟩:=rp
      obtain ⟨b,us,rfl,hb,nb,rb⟩:=rq
      rw [ints_eq e1] at ra
      rw [ints_eq e2] at rb
      rw [ra.toInts] at ha
      rw [rb.toInts] at hb
      exact WO.of (op_ltT (by omega)) ⟨a,b,ns,ms,rfl,rfl,SqT.of ha,SqT.of hb,now R h rfl⟩
    · exact h.elim
  · exact h.elim⟩
def dep:Nat:=12
def oEq:OP:=fun st p q=>if good dep (der st p)=true/\good dep (der st q)=true then .ok (.bl (peq (der st p) (der st q))) st else .stuck
def oNe:OP:=fun st p q=>if good dep (der st p)=true/\good dep (der st q)=true then .ok (.bl (!peq (der st p) (der st q))) st else .stuck
theorem os_eq (hu:X.A.units + 64 < cLine):OpS X E (compareOp .Eq) oEq:=⟨fun H ρ st p q x y Q R rp rq h=>by
  unfold oEq at h
  split at h
  · rename_i g
    intro pins s σ v u I rv ru
    exact (eqAts dep I g.1 g.2 (by unfold dep; omega) (der_rep R g.1 rp) rv (der_rep R g.2 rq) ru).2.1 _ _ _ _ ⟨.bl _,H,I,rfl,now R h rfl⟩
  · exact h.elim⟩
theorem os_ne (hu:X.A.units + 64 < cLine):OpS X E (compareOp .NotEq) oNe:=⟨fun H ρ st p q x y Q R rp rq h=>by
  unfold oNe at h
  split at h
  · rename_i g
    intro pins s σ v u I rv ru
    exact (eqAts dep I g.1 g.2 (by unfold dep; omega) (der_rep R g.1 rp) rv (der_rep R g.2 rq) ru).2.2 _ _ _ _ ⟨.bl _,H,I,rfl,now R h rfl⟩
  · exact h.elim⟩
def isNon:PV->Bool
  | .non=>true
  | _=>false
def oIs:OP:=fun st p q=>match q with
  | .non=>.ok (.bl (isNon p)) st
  | .bl c=>match p with
    | .bl b=>.ok (.bl (b == c)) st
    | _=>.stuck
  | _=>.stuck
def oIsNot:OP:=fun st p q=>match q with
  | .non=>.ok (.bl (!isNon p)) st
  | .bl c=>match p with
    | .bl b=>.ok (.bl (b != c)) st
    | _=>.stuck
  | _=>.stuck
def oIn (neg:Bool):OP:=fun st p q=>match seqOf st q with
  | some xs=>if good dep (der st p)=true/\xs.all (good dep)=true then .ok (.bl ((xs.any fun y=>peq y (der st p)) != neg)) st else .stuck
  | none=>.stuck
open Classical in
theorem in_items {pins:List (Addr × Obj)} {σ:St} {H:Hp} {ρ:Tk} {s:Shared} {A:Around} {st:Store} {p:PV} {xs:List PV} {x:V} {v:Value} {vs:List V} {its:List Value} (I:Inv X pins σ H s) (hu:A.units + dep < cLine) (R:Rel H ρ st)
    (gp:good dep (der st p)=true) (gx:xs.all (good dep)=true) (rp:Rep H ρ p x) (rv:RelV x v) (ra:RepL H ρ xs vs) (vi:Vals vs its):∃ e:Value->Bool,(∀ u,u ∈ its.toArray->SeqAt.EqAt A s u v (e u))/\its.toArray.any e=xs.any fun y=>peq y (der st p):=by
  have key:∀ u ∈ its,∃ q ∈ xs,∃ y,Rep H Tk.nil q y/\RelV y u:=fun u hu=>by
    obtain ⟨j,hj,rfl⟩:=List.getElem_of_mem hu
    have l1:=vi.length
    have l2:=ra.length
    obtain ⟨y,e1,e2⟩:=(repL_nil gx ra).get (List.getElem?_eq_getElem (show j < xs.length by omega))
    obtain ⟨w,e3,e4⟩:=vi.get e1
    rw [List.getElem?_eq_getElem hj] at e3; cases e3
    exact ⟨_,List.getElem_mem _,y,e2,e4⟩
  refine ⟨fun u=>decide (∃ q ∈ xs,∃ y,Rep H Tk.nil q y/\RelV y u/\peq q (der st p)=true),fun u hm=>?_,?_⟩
  · have hm':u ∈ its:=by simpa using hm
    by_cases z:∃ q ∈ xs,∃ y,Rep H Tk.nil q y/\RelV y u/\peq q (der st p)=true
    · show SeqAt.EqAt A s u v (decide _)
      rw [decide_eq_true z]
      obtain ⟨q,hq,y,r1,r2,e⟩:=z
      have:=(eqAts dep I ((List.all_eq_true.mp gx) q hq) gp hu r1 r2 (der_rep R gp rp) rv).1
      rw [e] at this
      exact this
    · show SeqAt.EqAt A s u v (decide _)
      rw [decide_eq_false z]
      obtain ⟨q,hq,y,r1,r2⟩:=key u hm'
      have:=(eqAts dep I ((List.all_eq_true.mp gx) q hq) gp hu r1 r2 (der_rep R gp rp) rv).1
      cases e:peq q (der st p) with
      | true=>exact absurd ⟨q,hq,y,r1,r2,e⟩ z
      | false=>rw [e] at this; exact this
  · rw [Bool.eq_iff_iff,Array.any_eq_true,List.any_eq_true]
    constructor
    · rintro ⟨j,hj,e⟩
      obtain ⟨q,hq,y,r1,r2,e⟩:=of_decide_eq_true e
      exact ⟨q,hq,e⟩
    · rintro ⟨q,hq,e⟩
      obtain ⟨j,hj,rfl⟩:=List.getElem_of_mem hq
      have l1:=vi.length
      have l2:=ra.length
      have hj':j < its.length:=by omega
      obtain ⟨y,e1,e2⟩:=(repL_nil gx ra).get (List.getElem?_eq_getElem hj)
      obtain ⟨w,e3,e4⟩:=vi.get e1
      refine ⟨j,by simpa using hj',decide_eq_true ⟨_,hq,y,e2,?_,e⟩⟩
      rw [List.getElem?_eq_getElem hj'] at e3; cases e3
      simpa using e4
theorem os_notin (hu:X.A.units + 64 < cLine):OpS X E (compareOp .NotIn) (oIn true):=⟨fun H ρ st p q x y Q R rp rq h=>by
  unfold oIn at h
  split at h
  · rename_i xs es
    split at h
    · rename_i g
      obtain ⟨t,a,vs,rfl,hq,ra⟩:=seq_at (K:=X.K) R rq es
      intro pins s σ v u I rv ru
      cases ru
      rw [Bool.bne_true] at h
      cases t with
      | true=>
        obtain ⟨its,r,pl,hz⟩:=I.tuple hq
        obtain ⟨e,he,ea⟩:=in_items (A:=X.A.in1) I (by show X.A.units + 1 + dep < cLine; unfold dep; omega) R g.1 g.2 rp rv ra r
        refine SeqAt.notIn_tupleAt e pl he ⟨.bl _,H,I,rfl,?_⟩
        rw [ea]
        exact now R h rfl
      | false=>
        obtain ⟨its,r,pl,hz⟩:=I.list hq
        obtain ⟨e,he,ea⟩:=in_items (A:=X.A.in1) I (by show X.A.units + 1 + dep < cLine; unfold dep; omega) R g.1 g.2 rp rv ra r
        refine SeqAt.notIn_listAt e pl.isList he ⟨.bl _,H,I,rfl,?_⟩
        rw [ea]
        exact now R h rfl
    · exact h.elim
  · exact h.elim⟩
end
end Sm
namespace Sm
open PySem PySem.Spec L2
section
variable {H:Hp} {ρ:Tk}
theorem RepL.atI {ps:List PV} {vs:List V} {i:Int} {p:PV} (r:RepL H ρ ps vs) (e:atI ps i=some p):∃ v,L2.atI vs i=some v/\Rep H ρ p v:=by
  unfold L2.atI at e ⊢
  rw [<- r.length]
  cases q:ixN ps.length i with
  | none=>rw [q] at e; cases e
  | some j=>
    rw [q] at e
    exact r.get e
def cut {α:Type} (xs:List α) (lo hi:Option Int):List α:=(xs.drop (HT.sIx xs.length 0 lo)).take (HT.sIx xs.length xs.length hi - HT.sIx xs.length 0 lo)
theorem RepL.cut {ps:List PV} {vs:List V} (r:RepL H ρ ps vs) (lo hi:Option Int):RepL H ρ (Sm.cut ps lo hi) (cutV vs lo hi):=by
  unfold Sm.cut cutV
  rw [<- r.length]
  exact (r.drop _).take _
end
section
variable {X:Cx} {E:XK} {pos:Pos} {a b:Expr} {ma mb:ME}
def oIx:OP:=fun st p q=>match seqOf st p,q with
  | some xs,.int i=>okO st (atI xs i)
  | _,_=>.stuck
theorem se_ix (ha:SimE X E a ma) (hb:SimE X E b mb) (hs:PlainIx b:=by exact fun _ _=>rfl):SimE X E (.Subscript a b pos) (mOp oIx ma mb):=
  ⟨fun Γ σ H ρ st Q R G h=>WE.of (pe_ix ix_seq pe_w pe_w hs) (ha.use R G h.bind fun p st1 H1 ρ1 v x1 R1 G1 r1 h1=>hb.use R1 G1 h1.bind fun q st2 H2 ρ2 u x2 R2 G2 r2 h2=>by
    unfold oIx at h2
    split at h2
    · rename_i xs i e
      cases r2
      cases ea:atI xs i with
      | none=>rw [ea] at h2; exact h2.elim
      | some w=>
        rw [ea] at h2
        obtain ⟨t,b,vs,rfl,hq,ra⟩:=seq_at (K:=X.K) R2 (r1.ext x2) e
        obtain ⟨z,ez,rz⟩:=ra.atI ea
        cases t with
        | true=>exact .inr (.inl ⟨b,vs,i,z,rfl,rfl,hq,ez,now R2 h2 rz⟩)
        | false=>exact .inl ⟨b,vs,i,z,rfl,rfl,hq,ez,now R2 h2 rz⟩
    · exact h2.elim)⟩
structure SimO (X:Cx) (E:XK) (o:Option Expr) (m:Gam->Store->Res (Option Int)):Prop where
  run:∀ (Γ:Gam) (σ:St) (H:Hp) (ρ:Tk) (st:Store) (P:Option Int->Store->Hp->Tk->Prop) (Q:Option Int->Hp->Prop),Rel H ρ st->EnvR H ρ Γ σ->Acc X.mg E H ρ P (m Γ st) ->
    (∀ i st1 H1 ρ1,Ext H ρ H1 ρ1->Rel H1 ρ1 st1->EnvR H1 ρ1 Γ σ->P i st1 H1 ρ1->Q i H1)->∃ t,PO X o t/\t σ H Q
def mNoPart:Gam->Store->Res (Option Int):=fun _ st=>.ok none st
def mPart (m:ME):Gam->Store->Res (Option Int):=fun Γ st=>(m Γ st).bind fun p st1=>match p with
  | .int i=>.ok (some i) st1
  | _=>.stuck
theorem so_none:SimO X E none mNoPart:=⟨fun Γ σ H ρ st P Q R G h k=>⟨_,po_none,k none st H ρ (Ext.refl _ _) R G (h H ρ (Ext.refl _ _) R)⟩⟩
theorem so_some (ha:SimE X E a ma):SimO X E (some a) (mPart ma):=⟨fun Γ σ H ρ st P Q R G h k=>⟨_,po_some pe_w,ha.use R G h.bind fun p st1 H1 ρ1 v x1 R1 G1 r1 h1=>by
  cases p with
  | int i=>exact ⟨i,r1,k (some i) st1 H1 ρ1 x1 R1 G1 (h1 H1 ρ1 (Ext.refl _ _) R1)⟩
  | _=>exact h1.elim⟩⟩
def oSl (st:Store) (p:PV) (lo hi:Option Int):Res PV:=match p with
  | .tup xs=>.ok (.tup (cut xs lo hi)) st
  | p=>match listOf st p with
    | some xs=>.ok (.lst (cut xs lo hi)) st
    | none=>.stuck
def mSl (ma:ME) (ml mh:Gam->Store->Res (Option Int)):ME:=fun Γ st=>(ma Γ st).bind fun p st1=>(ml Γ st1).bind fun lo st2=>(mh Γ st2).bind fun hi st3=>oSl st3 p lo hi
def TO.w (X:Cx) (o:Option Expr):TO:=fun σ H Q=>∃ t,PO X o t/\t σ H Q
theorem po_w {o:Option Expr}:PO X o (TO.w X o):=fun pins s σ H Q I ⟨t,h,q⟩=>h pins s σ H Q I q
theorem se_slice {lo hi:Option Expr} {ml mh:Gam->Store->Res (Option Int)} {p2:Pos} (ha:SimE X E a ma) (hl:SimO X E lo ml) (hh:SimO X E hi mh):SimE X E (.Subscript a (.Slice lo hi none p2) pos) (mSl ma ml mh):=
  ⟨fun Γ σ H ρ st Q R G h=>WE.of (pe_slice (sl_tup.or (sl_whole.or sl_list)) pe_w po_w po_w) (ha.use R G h.bind fun p st1 H1 ρ1 v x1 R1 G1 r1 h1=>by
    refine hl.run Γ σ H1 ρ1 st1 _ _ R1 G1 h1.bind fun l st2 H2 ρ2 x2 R2 G2 h2=>?_
    refine hh.run Γ σ H2 ρ2 st2 _ _ R2 G2 h2.bind fun u st3 H3 ρ3 x3 R3 G3 h3=>?_
    have r3:=r1.ext (x2.trans x3)
    unfold oSl at h3
    split at h3
    · rename_i xs
      obtain ⟨a,vs,rfl,ha,na,ra⟩:=r3
      by_cases hw:HT.sIx vs.length 0 l=0/\HT.sIx vs.length vs.length u=vs.length
      · refine .inr (.inl ⟨a,vs,rfl,SqT.of ha,hw,?_⟩)
        have e:cut xs l u=xs:=by
          unfold cut
          rw [ra.length,hw.1,hw.2,List.drop_zero,Nat.sub_zero,<- ra.length,List.take_length]
        rw [e] at h3
        exact now R3 h3 ⟨a,vs,rfl,ha,na,ra⟩
      · exact .inl ⟨a,vs,rfl,SqT.of ha,hw,new_tup R3 h3 (ra.cut l u)⟩
    · split at h3
      · rename_i xs e
        obtain ⟨a,vs,rfl,ha,ra⟩:=list_at R3 r3 e
        exact .inr (.inr ⟨a,vs,rfl,.inl ha,new_lst R3 h3 (ra.cut l u)⟩)
      · exact h3.elim)⟩
variable {es:List Expr} {e:Expr} {mr:Gam->Store->Res (List PV)}
def mCall (o:CF) (mr:Gam->Store->Res (List PV)):ME:=fun Γ st=>(mr Γ st).bind fun ps st1=>o st1 ps
theorem CallS.use {f:Value} {o:CF} (s:CallS X E f o) {P:PV->Store->Hp->Tk->Prop} {Q:VK} {H:Hp} {ρ:Tk} {st:Store} {ps:List PV} {xs:List V} (R:Rel H ρ st) (rp:RepL H ρ ps xs) (h:Acc X.mg E H ρ P (o st ps))
    (k:∀ p st1 H1 ρ1 v,Ext H ρ H1 ρ1->Rel H1 ρ1 st1->Rep H1 ρ1 p v->P p st1 H1 ρ1->Q v H1):WC X f xs H Q:=by
  refine s.run H ρ st ps xs Q R rp ?_
  cases r:o st ps with
  | ok p st1=>rw [r] at h; exact fun H' ρ' x' R' v rv=>k p st1 H' ρ' v x' R' rv (h H' ρ' x' R')
  | exc e st=>rw [r] at h; exact h
  | stuck=>rw [r] at h; exact h
theorem se_callB {id:String} {x:Str} {p:Pos} {o:CF} (hc:CallS X E (.builtin id) o) (hg:Gl X x) (hm:X.mg x=none) (hv:bootBuiltins x=some (.builtin id)) (ha:SimA X E (e :: es) mr) (hn:x ≠ "__name__" := by decide) (hdb:(x == ("__debug__" : Str))=false:=by decide)
    (he:starEach (e :: es) X.env=(false,eval e X.env) :: starEach es X.env:=by rfl) (hpl:(backTo pos (starEach es X.env)).any (·.1)=false:=by rfl):SimE X E (.Call (.Name x p) (e :: es) [] pos) (mCall o mr):=
  ⟨fun Γ σ H ρ st Q R G h=>WE.of (pe_callB call_w hg hm hv pa_w hn hdb he hpl) (ha.use R G h.bind fun ps st1 H1 ρ1 vs x1 R1 G1 r1 h1=>hc.use R1 r1 h1 fun _ _ _ _ v _ _ r q=>q v r)⟩
theorem se_callT {T:String} {x:Str} {p:Pos} {o:CF} (hc:CallS X E (.type T) o) (hg:Gl X x) (hm:X.mg x=none) (hv:bootBuiltins x=some (.type T)) (ha:SimA X E (e :: es) mr) (hn:x ≠ "__name__" := by decide) (hdb:(x == ("__debug__" : Str))=false:=by decide)
    (he:starEach (e :: es) X.env=(false,eval e X.env) :: starEach es X.env:=by rfl) (hpl:(backTo pos (starEach es X.env)).any (·.1)=false:=by rfl):SimE X E (.Call (.Name x p) (e :: es) [] pos) (mCall o mr):=
  ⟨fun Γ σ H ρ st Q R G h=>WE.of (pe_callTy call_w hg hm hv pa_w hn hdb he hpl) (ha.use R G h.bind fun ps st1 H1 ρ1 vs x1 R1 G1 r1 h1=>hc.use R1 r1 h1 fun _ _ _ _ v _ _ r q=>q v r)⟩
theorem repL_one {H:Hp} {ρ:Tk} {p:PV} {xs:List V} (r:RepL H ρ [p] xs):∃ v,xs=[v]/\Rep H ρ p v:=by
  obtain ⟨v,t,rfl,h1,h2⟩:=r
  cases h2
  exact ⟨v,rfl,h1⟩
theorem repL_two {H:Hp} {ρ:Tk} {p q:PV} {xs:List V} (r:RepL H ρ [p,q] xs):∃ v u,xs=[v,u]/\Rep H ρ p v/\Rep H ρ q u:=by
  obtain ⟨v,t,rfl,h1,h2⟩:=r
  obtain ⟨u,rfl,h3⟩:=repL_one h2
  exact ⟨v,u,rfl,h1,h3⟩
def cLen:CF:=fun st ps=>match ps with
  | [p]=>match seqOf st p with
    | some xs=>.ok (.int xs.length) st
    | none=>match p with
      | .str x=>if x.length<=lim then .ok (.int x.length) st else .stuck
      | _=>.stuck
  | _=>.stuck
theorem cs_len:CallS X E (.builtin "len") cLen:=⟨fun H ρ st ps xs Q R rp h=>by
  unfold cLen at h
  split at h
  · rename_i p
    obtain ⟨v,rfl,r⟩:=repL_one rp
    split at h
    · rename_i ys e
      obtain ⟨t,a,vs,rfl,hq,ra⟩:=seq_at (K:=X.K) R r e
      rw [ra.length] at h
      exact WC.of call_len_seq ⟨a,vs,rfl,sqK_or hq,now R h rfl⟩
    · split at h
      · cases r
        split at h
        · rename_i hl
          exact WC.of call_len_str ⟨_,rfl,le_lim hl,now R h rfl⟩
        · exact h.elim
      · exact h.elim
  · exact h.elim⟩
def cInts (g:List Int->Option PV):CF:=fun st ps=>match ps with
  | [p]=>match (seqOf st p).bind intsOf with
    | some ns=>okO st (g ns)
    | none=>.stuck
  | _=>.stuck
def cBls (g:List Bool->PV):CF:=fun st ps=>match ps with
  | [p]=>match (seqOf st p).bind blsOf with
    | some ns=>.ok (g ns) st
    | none=>.stuck
  | _=>.stuck
theorem ints_at' {K:PySem.W.Frag} {H:Hp} {ρ:Tk} {st:Store} {p:PV} {v:V} {ns:List Int} (R:Rel H ρ st) (r:Rep H ρ p v) (e:(seqOf st p).bind intsOf=some ns):∃ (t:Bool) (a:Addr),v=.ref a/\SqK K t H a (ns.map V.int):=by
  cases q:seqOf st p with
  | none=>rw [q] at e; cases e
  | some xs=>
    rw [q] at e
    obtain ⟨t,a,vs,rfl,hq,ra⟩:=seq_at (K:=K) R r q
    rw [ints_eq e] at ra
    rw [ra.toInts] at hq
    exact ⟨t,a,rfl,hq⟩
theorem bls_at' {K:PySem.W.Frag} {H:Hp} {ρ:Tk} {st:Store} {p:PV} {v:V} {ns:List Bool} (R:Rel H ρ st) (r:Rep H ρ p v) (e:(seqOf st p).bind blsOf=some ns):∃ (t:Bool) (a:Addr),v=.ref a/\SqK K t H a (ns.map V.bl):=by
  cases q:seqOf st p with
  | none=>rw [q] at e; cases e
  | some xs=>
    rw [q] at e
    obtain ⟨t,a,vs,rfl,hq,ra⟩:=seq_at (K:=K) R r q
    rw [bls_eq e] at ra
    rw [ra.toBls] at hq
    exact ⟨t,a,rfl,hq⟩
theorem cs_sum (hc:X.calm=true):CallS X E (.builtin "sum") (cInts fun ns=>some (.int ns.sum)):=⟨fun H ρ st ps xs Q R rp h=>by
  unfold cInts at h
  split at h
  · obtain ⟨v,rfl,r⟩:=repL_one rp
    split at h
    · rename_i ns e
      obtain ⟨t,a,rfl,hq⟩:=ints_at' (K:=X.K) R r e
      exact WC.of (call_sum t hc) ⟨a,ns,rfl,hq,now R h rfl⟩
    · exact h.elim
  · exact h.elim⟩
theorem cs_all (hc:X.calm=true):CallS X E (.builtin "all") (cBls fun ns=>.bl (ns.all id)):=⟨fun H ρ st ps xs Q R rp h=>by
  unfold cBls at h
  split at h
  · obtain ⟨v,rfl,r⟩:=repL_one rp
    split at h
    · rename_i ns e
      obtain ⟨t,a,rfl,hq⟩:=bls_at' (K:=X.K) R r e
      exact WC.of (call_all t hc) ⟨a,ns,rfl,hq,now R h rfl⟩
    · exact h.elim
  · exact h.elim⟩
theorem cs_any (hc:X.calm=true):CallS X E (.builtin "any") (cBls fun ns=>.bl (ns.any id)):=⟨fun H ρ st ps xs Q R rp h=>by
  unfold cBls at h
  split at h
  · obtain ⟨v,rfl,r⟩:=repL_one rp
    split at h
    · rename_i ns e
      obtain ⟨t,a,rfl,hq⟩:=bls_at' (K:=X.K) R r e
      exact WC.of (call_any t hc) ⟨a,ns,rfl,hq,now R h rfl⟩
    · exact h.elim
  · exact h.elim⟩
def maxI:List Int->Option Int
  | []=>none
  | n :: ns=>some (ns.foldl (fun a b=>if b > a then b else a) n)
def minI:List Int->Option Int
  | []=>none
  | n :: ns=>some (ns.foldl (fun a b=>if b < a then b else a) n)
theorem foldl_min:∀ (ns:List Int) (n:Int),(ns.foldl (fun a b=>if b < a then b else a) n=n\/ns.foldl (fun a b=>if b < a then b else a) n ∈ ns)/\ns.foldl (fun a b=>if b < a then b else a) n<=n/\∀ k ∈ ns,ns.foldl (fun a b=>if b < a then b else a) n<=k
  | [],n=>⟨.inl rfl,Int.le_refl _,fun k h=>by cases h⟩
  | m :: ns,n=>by
    obtain ⟨h1,h2,h3⟩:=foldl_min ns (if m < n then m else n)
    rw [List.foldl_cons]
    refine ⟨?_,?_,fun k hk=>?_⟩
    · rcases h1 with e | e
      · by_cases hm:m < n
        · rw [if_pos hm] at e ⊢; exact .inr (by rw [e]; exact List.mem_cons_self)
        · rw [if_neg hm] at e ⊢; exact .inl e
      · exact .inr (List.mem_cons_of_mem _ e)
    · by_cases hm:m < n
      · rw [if_pos hm] at h2 ⊢; omega
      · rw [if_neg hm] at h2 ⊢; exact h2
    · rcases List.mem_cons.mp hk with rfl | hk
      · by_cases hm:k < n
        · rw [if_pos hm] at h2 ⊢; exact h2
        · rw [if_neg hm] at h2 ⊢; omega
      · exact h3 k hk
def cMax:CF:=fun st ps=>match ps with
  | [.int a,.int b]=>.ok (.int (if b > a then b else a)) st
  | ps=>cInts (fun ns=>(maxI ns).map .int) st ps
def cMin:CF:=fun st ps=>match ps with
  | [.int a,.int b]=>.ok (.int (if b < a then b else a)) st
  | ps=>cInts (fun ns=>(minI ns).map .int) st ps
theorem cs_min (hc:X.calm=true):CallS X E (.builtin "min") cMin:=⟨fun H ρ st ps xs Q R rp h=>by
  unfold cMin at h
  split at h
  · obtain ⟨v,u,rfl,r1,r2⟩:=repL_two rp
    cases r1; cases r2
    exact WC.of (call_min2 hc) ⟨_,_,rfl,now R h rfl⟩
  · unfold cInts at h
    split at h
    · obtain ⟨v,rfl,r⟩:=repL_one rp
      split at h
      · rename_i ns e
        cases ns with
        | nil=>exact h.elim
        | cons n ns=>
          obtain ⟨t,a,rfl,hq⟩:=ints_at' (K:=X.K) R r e
          refine WC.of (call_minL t hc) ⟨a,_,rfl,hq,by simp,fun m hm hk=>?_⟩
          have em:m=ns.foldl (fun a b=>if b < a then b else a) n:=by
            obtain ⟨h1,h2,h3⟩:=foldl_min ns n
            have g1:m<=ns.foldl (fun a b=>if b < a then b else a) n:=by
              rcases h1 with e | e
              · rw [e]; exact hk _ List.mem_cons_self
              · exact hk _ (List.mem_cons_of_mem _ e)
            have g2:ns.foldl (fun a b=>if b < a then b else a) n<=m:=by
              rcases List.mem_cons.mp hm with rfl | hm
              · exact h2
              · exact h3 m hm
            omega
          subst em
          exact now R h rfl
      · exact h.elim
    · exact h.elim⟩
def cList:CF:=fun st ps=>match ps with
  | [p]=>match seqOf st p with
    | some xs=>.ok (.lst xs) st
    | none=>.stuck
  | _=>.stuck
def cTuple:CF:=fun st ps=>match ps with
  | [p]=>match seqOf st p with
    | some xs=>.ok (.tup xs) st
    | none=>.stuck
  | _=>.stuck
theorem cs_tuple:CallS X E (.type "tuple") cTuple:=⟨fun H ρ st ps xs Q R rp h=>by
  unfold cTuple at h
  split at h
  · rename_i p
    obtain ⟨v,rfl,r⟩:=repL_one rp
    split at h
    · rename_i ys e
      cases p with
      | tup zs=>
        cases e
        obtain ⟨a,vs,rfl,ha,na,ra⟩:=r
        exact WC.of call_tuple_of ⟨a,vs,rfl,.inr ⟨SqT.of ha,now R h ⟨a,vs,rfl,ha,na,ra⟩⟩⟩
      | _=>
        obtain ⟨a,vs,rfl,ha,ra⟩:=list_at R r e
        exact WC.of call_tuple_of ⟨a,vs,rfl,.inl ⟨.inl ha,new_tup R h ra⟩⟩
    · exact h.elim
  · exact h.elim⟩
def cAbs:CF:=fun st ps=>match ps with
  | [.int a]=>.ok (.int (if a < 0 then -a else a)) st
  | _=>.stuck
def tyN:PV->String
  | .non => "NoneType"
  | .bl _ => "bool"
  | .int _ => "int"
  | .str _ => "str"
  | .tup _ => "tuple"
  | .lst _ => "list"
  | .fro _ => "list"
  | .ref _ => "list"
  | .dic => "dict"
def isI (T:String) (p:PV):Bool:=tyN p == T || (T == "int" && tyN p == "bool")
theorem ty_of {K:PySem.W.Frag} {H:Hp} {ρ:Tk} {st:Store} {p:PV} {v:V} (R:Rel H ρ st) (r:Rep H ρ p v):TyOf K H v (.type (tyN p)):=by
  cases p with
  | non=>cases r; exact .non
  | bl b=>cases r; exact .bl b
  | int i=>cases r; exact .int i
  | str x=>cases r; exact .str x
  | tup ps=>obtain ⟨a,vs,rfl,h,_⟩:=r; exact .tup h
  | lst ps=>obtain ⟨a,vs,rfl,h,_⟩:=r; exact .lst h
  | fro ps=>
    obtain ⟨a,vs,rfl,h,_⟩:=r
    rcases h with h | ⟨o,h⟩
    · exact .lst h
    · exact .frz h
  | ref i=>
    obtain ⟨a,e,rfl⟩:=r
    obtain ⟨vs,h⟩:=R.dom (List.mem_of_getElem? e)
    exact .lst h
  | dic=>obtain ⟨a,rfl,h,_⟩:=r; exact .dK h
def kitTypes:List String:=["int", "bool", "str", "tuple", "list", "dict"]
theorem kit_ok (K:PySem.W.Frag) {T:String} (hT:T ∈ kitTypes) (p:PV):PySem.W.kitOne K (.type (tyN p)) (.type T)=some (isI T p):=by
  have hT:T = "int" \/ T = "bool" \/ T = "str" \/ T = "tuple" \/ T = "list" \/ T = "dict" := by simpa [kitTypes] using hT
  rcases hT with rfl | rfl | rfl | rfl | rfl | rfl <;> cases p <;> first | rfl | kernel_rfl
def mIsI (T:String) (m:ME):ME:=fun Γ st=>(m Γ st).bind fun p st1=>.ok (.bl (isI T p)) st1
theorem se_isi {T:String} {tx:Str} {a:Expr} {ma:ME} {p tp:Pos} (hT:T ∈ kitTypes) (ha:SimE X E a ma) (hg:Gl X "isinstance") (hm:X.mg "isinstance" = none) (hgT:Gl X tx) (hmT:X.mg tx=none) (hvT:bootBuiltins tx=some (.type T))
    (hn:tx ≠ "__name__" := by decide) (hd:(tx == ("__debug__" : Str))=false:=by decide)
    (he:starEach [a,.Name tx tp] X.env=(false,eval a X.env) :: starEach [.Name tx tp] X.env:=by rfl) (he2:starEach [.Name tx tp] X.env=(false,eval (.Name tx tp) X.env) :: starEach [] X.env:=by rfl) (hpl:(backTo pos (starEach [.Name tx tp] X.env)).any (·.1)=false:=by rfl) :
    SimE X E (.Call (.Name "isinstance" p) [a,.Name tx tp] [] pos) (mIsI T ma):=
  ⟨fun Γ σ H ρ st Q R G h=>WE.of (pe_callB call_isinst hg hm boot_isinstance (pa_cons pe_w (pa_cons (pe_bltn hgT hmT hvT (v:=.ty T) rfl hn hd) pa_nil he2) he) (by decide) (by decide) he hpl)
    (ha.use R G h.bind fun q st1 H1 ρ1 v x1 R1 G1 r1 h1=>⟨v,.ty T,.type T,_,_,rfl,rfl,ty_of R1 r1,kit_ok X.K hT q,now R1 h1 rfl⟩)⟩
end
end Sm
namespace Sm
open PySem PySem.Spec L2
abbrev GA:=PV->Gam->Option Gam
abbrev GAs:=List PV->Gam->Option Gam
structure SimG (X:Cx) (tg:Expr) (ga:GA):Prop where
  run:∀ (Γ Γ':Gam) (σ:St) (H:Hp) (ρ:Tk) (p:PV) (v:V) (Q:St->Hp->Prop),EnvR H ρ Γ σ->Rep H ρ p v->ga p Γ=some Γ'->(∀ σ',EnvR H ρ Γ' σ'->Q σ' H)->∃ t,PG X tg t/\t v σ H Q
structure SimGs (X:Cx) (tgs:List Expr) (n:Nat) (ga:GAs):Prop where
  run:∀ (Γ Γ':Gam) (σ:St) (H:Hp) (ρ:Tk) (ps:List PV) (vs:List V) (Q:St->Hp->Prop),EnvR H ρ Γ σ->RepL H ρ ps vs->ga ps Γ=some Γ'->(∀ σ',EnvR H ρ Γ' σ'->Q σ' H)->∃ t,PGs X tgs t/\t vs σ H Q
  len:∀ ps Γ Γ',ga ps Γ=some Γ'->ps.length=n
def gaName (i:Nat):GA:=fun p Γ=>some (Γ.set i (some p))
def gaNil:GAs:=fun ps Γ=>match ps with
  | []=>some Γ
  | _=>none
def gaCons (g:GA) (gs:GAs):GAs:=fun ps Γ=>match ps with
  | p :: r=>(g p Γ).bind (gs r)
  | []=>none
def gaTup (gs:GAs):GA:=fun p Γ=>match p with
  | .tup ps=>gs ps Γ
  | _=>none
section
variable {X:Cx} {pos:Pos}
theorem sg_name {i:Nat} {x:Str} (hN:X.N.Nodup) (hi:X.N[i]?=some x:=by rfl) (hx:Loc X.env.scope x:=by first | exact Or.inl rfl | exact Or.inr rfl) (hf:X.fn x=true\/X.env.scope.names.lookup x=some .local:=by first | exact .inl rfl | exact .inr rfl):SimG X (.Name x pos) (gaName i):=
  ⟨fun Γ Γ' σ H ρ p v Q G r e k=>⟨_,pg_name hN hi hx hf,by cases e; exact k _ (G.set r i)⟩⟩
theorem sgs_nil:SimGs X [] 0 gaNil:=⟨fun Γ Γ' σ H ρ ps vs Q G r e k=>⟨_,pgs_nil,by
  cases ps with
  | nil=>cases e; cases r; exact ⟨rfl,k σ G⟩
  | cons _ _=>cases e⟩,fun ps Γ Γ' e=>by
  cases ps with
  | nil=>rfl
  | cons _ _=>cases e⟩
def WGx (X:Cx) (tg:Expr):TG:=fun v σ H Q=>∃ t,PG X tg t/\t v σ H Q
theorem pg_x {tg:Expr}:PG X tg (WGx X tg):=fun pins s σ H v u Q I r ⟨t,h,q⟩=>h pins s σ H v u Q I r q
def WGsx (X:Cx) (tgs:List Expr):TGs:=fun v σ H Q=>∃ t,PGs X tgs t/\t v σ H Q
theorem pgs_x {tgs:List Expr}:PGs X tgs (WGsx X tgs):=fun pins s σ H v u Q I r ⟨t,h,q⟩=>h pins s σ H v u Q I r q
theorem sgs_cons {e:Expr} {es:List Expr} {g:GA} {gs:GAs} {n:Nat} (h1:SimG X e g) (h2:SimGs X es n gs) (hs:(assignEach (e :: es) X.env).map (·.2)=assign e X.env :: (assignEach es X.env).map (·.2):=by rfl):SimGs X (e :: es) (n + 1) (gaCons g gs):=
  ⟨fun Γ Γ' σ H ρ ps vs Q G r eq k=>⟨_,pgs_cons pg_x pgs_x hs,by
    cases ps with
    | nil=>cases eq
    | cons p ps=>
      obtain ⟨v,t,rfl,r1,r2⟩:=r
      have eq:(g p Γ).bind (gs ps)=some Γ':=eq
      cases e1:g p Γ with
      | none=>rw [e1] at eq; cases eq
      | some Γ1=>
        rw [e1] at eq
        exact ⟨v,t,rfl,h1.run Γ Γ1 σ H ρ p v _ G r1 e1 fun σ1 G1=>h2.run Γ1 Γ' σ1 H ρ ps t _ G1 r2 eq k⟩⟩,fun ps Γ Γ' e=>by
    cases ps with
    | nil=>cases e
    | cons p ps=>
      have e:(g p Γ).bind (gs ps)=some Γ':=e
      cases e1:g p Γ with
      | none=>rw [e1] at e; cases e
      | some Γ1=>rw [e1] at e; rw [List.length_cons,h2.len ps Γ1 Γ' e]⟩
theorem sg_tup {es:List Expr} {k n:Nat} {gs:GAs} (hc:X.calm=true) (h:SimGs X es n gs) (hn:(assignEach es X.env).length=n:=by rfl) (hst:(assignEach es X.env).findIdx? (·.1)=none:=by rfl):SimG X (.Tuple es k pos) (gaTup gs):=
  ⟨fun Γ Γ' σ H ρ p v Q G r e q=>⟨_,pg_tup hc pgs_x hn hst,by
    cases p with
    | tup ps=>
      obtain ⟨a,vs,rfl,ha,na,ra⟩:=r
      exact ⟨a,vs,rfl,SqT.of ha,by rw [<- ra.length]; exact h.len ps Γ Γ' e,h.run Γ Γ' σ H ρ ps vs Q G ra e q⟩
    | _=>cases e⟩⟩
end
abbrev Wt:=List (Nat × List PV)
def wOk (w:Wt) (st:Store):Prop:=∀ x ∈ w,st[x.1]?=some (.lst x.2)
theorem wOk_nil (st:Store):wOk [] st:=fun x h=>by cases h
structure Src (J:It) (items:List PV) (w:Wt) (H:Hp) (ρ:Tk):Prop where
  stop:∀ H2 ρ2 st2,Ext H ρ H2 ρ2->Rel H2 ρ2 st2->wOk w st2->J.stop items.length H2
  go:∀ H2 ρ2 st2,Ext H ρ H2 ρ2->Rel H2 ρ2 st2->wOk w st2->∀ i,i < items.length->J.go i H2
  yld:∀ H2 ρ2 st2,Ext H ρ H2 ρ2->Rel H2 ρ2 st2->wOk w st2->∀ i p,items[i]?=some p->∀ x H3,J.yld i H2 x H3->Same H2 H3/\Rep H3 ρ2 p x
abbrev MI:=Gam->Store->Res (List PV × Wt)
structure SimI (X:Cx) (E:XK) (tg iter:Expr) (mi:MI):Prop where
  run:∀ (Γ:Gam) (σ:St) (H:Hp) (ρ:Tk) (st:Store) (P:List PV × Wt->Store->Hp->Tk->Prop) (R':It->Hp->Prop),Rel H ρ st->EnvR H ρ Γ σ->Acc X.mg E H ρ P (mi Γ st) ->
    (∀ iw st1 H1 ρ1 J,mi Γ st=.ok iw st1->Ext H ρ H1 ρ1->Rel H1 ρ1 st1->EnvR H1 ρ1 Γ σ->wOk iw.2 st1->iw.1.length<=sizeLine->Src J iw.1 iw.2 H1 ρ1->P iw st1 H1 ρ1->R' J H1)->WI X tg iter σ H R'
def srcOf (st:Store):PV->Option (List PV × Wt)
  | .tup xs=>some (xs,[])
  | .lst xs=>some (xs,[])
  | .fro xs=>some (xs,[])
  | .ref i=>match st[i]? with
    | some (.lst xs)=>some (xs,[(i,xs)])
    | none=>none
  | _=>none
theorem src_at {K:PySem.W.Frag} {H:Hp} {ρ:Tk} {st:Store} {p:PV} {v:V} {xs:List PV} {w:Wt} (R:Rel H ρ st) (r:Rep H ρ p v) (e:srcOf st p=some (xs,w)) :
    wOk w st/\∃ (t:Bool) (a:Addr),v=.ref a/\(t=true->∃ ys,p=.tup ys)/\(t=false->∀ ys,p ≠ .tup ys)/\∀ H2 ρ2 st2,Ext H ρ H2 ρ2->Rel H2 ρ2 st2->wOk w st2->∃ vs,SqK K t H2 a vs/\RepL H2 ρ2 xs vs:=by
  cases p with
  | tup ys=>
    obtain ⟨a,vs,rfl,ha,na,ra⟩:=r
    cases e
    exact ⟨wOk_nil _,true,a,rfl,fun _=>⟨_,rfl⟩,(fun z=>by cases z),fun H2 ρ2 st2 x R2 _=>⟨vs,show SqT K H2 a vs from SqT.of (x.kp ha na),ra.ext x⟩⟩
  | lst ys=>
    obtain ⟨a,vs,rfl,ha,na,ra⟩:=r
    cases e
    exact ⟨wOk_nil _,false,a,rfl,(fun z=>by cases z),(fun _ _ z=>by cases z),fun H2 ρ2 st2 x R2 _=>⟨vs,show SqL K H2 a vs from SqL.of (x.kp ha na),ra.ext x⟩⟩
  | fro ys=>
    obtain ⟨a,vs,rfl,ha,na,ra⟩:=r
    cases e
    refine ⟨wOk_nil _,false,a,rfl,(fun z=>by cases z),(fun _ _ z=>by cases z),fun H2 ρ2 st2 x R2 _=>⟨vs,show SqL K H2 a vs from ?_,ra.ext x⟩⟩
    rcases ha with ha | ⟨o,ha⟩
    · exact .inl (.inl (x.kp ha na))
    · exact .inl (.inr ⟨o,x.kp ha na⟩)
  | ref i=>
    obtain ⟨a,ea,rfl⟩:=r
    simp only [srcOf] at e
    split at e
    · rename_i ys hs
      cases e
      refine ⟨fun x hx=>?_,false,a,rfl,(fun z=>by cases z),(fun _ _ z=>by cases z),fun H2 ρ2 st2 x R2 ok=>?_⟩
      · have:x=(i,xs):=by simpa using hx
        subst this; exact hs
      · have hs2:=ok (i,xs) (by simp)
        obtain ⟨b,vs,f1,f2,f3⟩:=R2.lst hs2
        obtain ⟨t,et⟩:=x.pre
        rw [<- et,List.getElem?_append_left (List.getElem?_eq_some_iff.mp ea).1,ea] at f1
        cases f1
        exact ⟨vs,show SqL K H2 a vs from SqL.of f2,f3⟩
    · cases e
  | _=>cases e
section
variable {X:Cx} {E:XK} {pos:Pos} {tg:Expr} {e:Expr} {m:ME}
def mSeq (m:ME):MI:=fun Γ st=>(m Γ st).bind fun p st1=>match srcOf st1 p with
  | some (xs,w)=>if xs.length<=lim then .ok (xs,w) st1 else .stuck
  | none=>.stuck
theorem RepL.i {H:Hp} {ρ:Tk} {ps:List PV} {vs:List V} {i:Nat} {p:PV} {x:V} (r:RepL H ρ ps vs) (h:ps[i]?=some p) (h':vs[i]?=some x):Rep H ρ p x:=by
  obtain ⟨v,e,q⟩:=r.get h
  rw [h'] at e; cases e
  exact q
theorem src_seq {K:PySem.W.Frag} {H:Hp} {ρ:Tk} {t:Bool} {a:Addr} {xs:List PV} {w:Wt} (h:∀ H2 ρ2 st2,Ext H ρ H2 ρ2->Rel H2 ρ2 st2->wOk w st2->∃ vs,SqK K t H2 a vs/\RepL H2 ρ2 xs vs):Src (if t=true then Itt K a else Itl K a) xs w H ρ:=by
  cases t with
  | true=>
    rw [if_pos rfl]
    refine ⟨fun H2 ρ2 st2 x R ok=>?_,fun H2 ρ2 st2 x R ok i hi=>?_,fun H2 ρ2 st2 x R ok i p hp y H3 hy=>?_⟩
    · obtain ⟨vs,s,r⟩:=h H2 ρ2 st2 x R ok
      exact ⟨vs,s,by rw [r.length]; exact Nat.le_refl _⟩
    · obtain ⟨vs,s,r⟩:=h H2 ρ2 st2 x R ok
      have hi':i < vs.length:=by rw [<- r.length]; exact hi
      exact ⟨vs,vs[i],s,List.getElem?_eq_getElem hi'⟩
    · obtain ⟨vs,s,r⟩:=h H2 ρ2 st2 x R ok
      obtain ⟨rfl,hv⟩:=hy
      exact ⟨Same.refl _,r.i hp (hv vs s)⟩
  | false=>
    rw [if_neg Bool.false_ne_true]
    refine ⟨fun H2 ρ2 st2 x R ok=>?_,fun H2 ρ2 st2 x R ok i hi=>?_,fun H2 ρ2 st2 x R ok i p hp y H3 hy=>?_⟩
    · obtain ⟨vs,s,r⟩:=h H2 ρ2 st2 x R ok
      exact ⟨vs,s,by rw [r.length]; exact Nat.le_refl _⟩
    · obtain ⟨vs,s,r⟩:=h H2 ρ2 st2 x R ok
      have hi':i < vs.length:=by rw [<- r.length]; exact hi
      exact ⟨vs,vs[i],s,List.getElem?_eq_getElem hi'⟩
    · obtain ⟨vs,s,r⟩:=h H2 ρ2 st2 x R ok
      obtain ⟨rfl,hv⟩:=hy
      exact ⟨Same.refl _,r.i hp (hv vs s)⟩
theorem mSeq_in {mg:Str->Option Value} {H:Hp} {ρ:Tk} {st:Store} {p:PV} {P:List PV × Wt->Store->Hp->Tk->Prop} (R:Rel H ρ st) (h:Acc mg E H ρ P (match srcOf st p with | some (xs,w)=>if xs.length<=lim then .ok (xs,w) st else .stuck | none=>.stuck)) :
    ∃ xs w,srcOf st p=some (xs,w)/\xs.length<=lim/\P (xs,w) st H ρ:=by
  split at h
  · rename_i xs w e
    split at h
    · rename_i hl
      exact ⟨xs,w,e,hl,h H ρ (Ext.refl _ _) R⟩
    · exact h.elim
  · exact h.elim
theorem si_seq (ha:SimE X E e m):SimI X E tg e (mSeq m):=⟨fun Γ σ H ρ st P R' R G h k=>by
  have hb:Acc X.mg E H ρ _ (m Γ st):=Acc.bind h
  by_cases ht:∃ ys st1,m Γ st=.ok (.tup ys) st1
  · obtain ⟨ys,st0,e0⟩:=ht
    refine WI.of (pi_tup pe_w) (ha.use' R G hb fun p st1 H1 ρ1 v eq x1 R1 G1 r1 h1=>?_)
    obtain ⟨xs,w,e,hl,hP⟩:=mSeq_in R1 h1
    obtain ⟨ok,t,a,rfl,t1,t2,sq⟩:=src_at (K:=X.K) R1 r1 e
    have ep:p=.tup ys:=by rw [eq] at e0; injection e0
    cases t with
    | false=>exact absurd ep (t2 rfl ys)
    | true=>
      obtain ⟨vs,s,_⟩:=sq H1 ρ1 st1 (Ext.refl _ _) R1 ok
      exact ⟨a,rfl,⟨vs,s⟩,k (xs,w) st1 H1 ρ1 _ (by simp only [mSeq,eq,Res.bind,e,if_pos hl]) x1 R1 G1 ok (le_lim hl) (src_seq sq) hP⟩
  · refine WI.of (pi_list pe_w) (ha.use' R G hb fun p st1 H1 ρ1 v eq x1 R1 G1 r1 h1=>?_)
    obtain ⟨xs,w,e,hl,hP⟩:=mSeq_in R1 h1
    obtain ⟨ok,t,a,rfl,t1,t2,sq⟩:=src_at (K:=X.K) R1 r1 e
    cases t with
    | true=>
      obtain ⟨ys,rfl⟩:=t1 rfl
      exact absurd ⟨ys,st1,eq⟩ ht
    | false=>
      obtain ⟨vs,s,_⟩:=sq H1 ρ1 st1 (Ext.refl _ _) R1 ok
      exact ⟨a,rfl,⟨vs,s⟩,k (xs,w) st1 H1 ρ1 _ (by simp only [mSeq,eq,Res.bind,e,if_pos hl]) x1 R1 G1 ok (le_lim hl) (src_seq sq) hP⟩⟩
def rangeI (lo:Int) (n:Nat):List PV:=(List.range n).map fun (k:Nat)=>PV.int (lo + (k:Int))
theorem src_range {H:Hp} {ρ:Tk} {lo:Int} {n:Nat}:Src (Itr lo n) (rangeI lo n) [] H ρ:=by
  have hl:(rangeI lo n).length=n:=by unfold rangeI; rw [List.length_map,List.length_range]
  refine ⟨fun H2 ρ2 st2 x R ok=>?_,fun H2 ρ2 st2 x R ok i hi=>?_,fun H2 ρ2 st2 x R ok i p hp y H3 hy=>?_⟩
  · show n<=(rangeI lo n).length
    omega
  · show i < n
    omega
  · obtain ⟨rfl,rfl⟩:=hy
    have hi:i < n:=by rw [<- hl]; exact (List.getElem?_eq_some_iff.mp hp).1
    unfold rangeI at hp
    rw [List.getElem?_map,List.getElem?_range hi] at hp
    cases hp
    exact ⟨Same.refl _,rfl⟩
def mRange1 (mr:Gam->Store->Res (List PV)):MI:=fun Γ st=>(mr Γ st).bind fun ps st1=>match ps with
  | [.int j]=>if -(lim:Int)<=j/\j<=lim then .ok (rangeI 0 j.toNat,[]) st1 else .stuck
  | _=>.stuck
def mRange2 (mr:Gam->Store->Res (List PV)):MI:=fun Γ st=>(mr Γ st).bind fun ps st1=>match ps with
  | [.int i,.int j]=>if -(lim:Int)<=i/\i<=lim/\-(lim:Int)<=j/\j<=lim then .ok (rangeI i (j - i).toNat,[]) st1 else .stuck
  | _=>.stuck
variable {a b:Expr} {mr:Gam->Store->Res (List PV)} {p:Pos}
theorem rangeI_len (lo:Int) (n:Nat):(rangeI lo n).length=n:=by unfold rangeI; rw [List.length_map,List.length_range]
theorem si_range1 (hg:Gl X "range") (hm:X.mg "range" = none) (ha:SimA X E [a] mr) (hs:starEach [a] X.env=[(false,eval a X.env)]:=by rfl):SimI X E tg (.Call (.Name "range" p) [a] [] pos) (mRange1 mr):=⟨fun Γ σ H ρ st P R' R G h k=>by
  refine WI.of (pi_range1 hg hm pa_w hs) (ha.use' R G h.bind fun ps st1 H1 ρ1 vs eq x1 R1 G1 r1 h1=>?_)
  split at h1
  · rename_i j
    split at h1
    · rename_i hj
      obtain ⟨v,rfl,rv⟩:=repL_one r1
      cases rv
      have hl:(lim:Int)=1000000:=rfl
      refine ⟨j,rfl,by omega,by omega,k (rangeI 0 j.toNat,[]) st1 H1 ρ1 _ (by simp only [mRange1,eq,Res.bind,if_pos hj]) x1 R1 G1 (wOk_nil _) ?_ src_range (h1 H1 ρ1 (Ext.refl _ _) R1)⟩
      show (rangeI 0 j.toNat).length<=sizeLine
      rw [rangeI_len]
      exact le_lim (by omega)
    · exact h1.elim
  · exact h1.elim⟩
def zipT:List PV->List PV->List PV
  | x :: xs,y :: ys=>.tup [x,y] :: zipT xs ys
  | _,_=>[]
theorem zipT_eq (xs ys:List PV):zipT xs ys=(xs.zip ys).map fun z=>.tup [z.1,z.2]:=by
  induction xs generalizing ys with
  | nil=>rfl
  | cons x xs ih=>
    cases ys with
    | nil=>rfl
    | cons y ys=>rw [zipT,ih]; rfl
theorem zipT_len (xs ys:List PV):(zipT xs ys).length=min xs.length ys.length:=by rw [zipT_eq,List.length_map,List.length_zip]
theorem zipT_get {xs ys:List PV} {i:Nat} {p:PV} (h:(zipT xs ys)[i]?=some p):∃ x y,p=.tup [x,y]/\xs[i]?=some x/\ys[i]?=some y:=by
  rw [zipT_eq,List.getElem?_map] at h
  cases e:(xs.zip ys)[i]? with
  | none=>rw [e] at h; cases h
  | some z=>
    rw [e] at h; cases h
    rw [List.getElem?_zip_eq_some] at e
    exact ⟨z.1,z.2,rfl,e.1,e.2⟩
def mZip (mr:Gam->Store->Res (List PV)):MI:=fun Γ st=>(mr Γ st).bind fun ps st1=>match ps with
  | [p,q]=>match srcOf st1 p,srcOf st1 q with
    | some (xs,w),some (ys,w')=>if xs.length<=lim then .ok (zipT xs ys,w ++ w') st1 else .stuck
    | _,_=>.stuck
  | _=>.stuck
theorem wOk_app {w w':Wt} {st:Store} (h:wOk (w ++ w') st):wOk w st/\wOk w' st:=⟨fun x hx=>h x (List.mem_append_left _ hx),fun x hx=>h x (List.mem_append_right _ hx)⟩
theorem src_zip {K:PySem.W.Frag} {H:Hp} {ρ:Tk} {t1 t2:Bool} {a b:Addr} {xs ys:List PV} {w w':Wt} (h:∀ H2 ρ2 st2,Ext H ρ H2 ρ2->Rel H2 ρ2 st2->wOk w st2->∃ vs,SqK K t1 H2 a vs/\RepL H2 ρ2 xs vs)
    (h':∀ H2 ρ2 st2,Ext H ρ H2 ρ2->Rel H2 ρ2 st2->wOk w' st2->∃ vs,SqK K t2 H2 b vs/\RepL H2 ρ2 ys vs):Src (Itz K t1 t2 a b) (zipT xs ys) (w ++ w') H ρ:=by
  refine ⟨fun H2 ρ2 st2 x R ok=>?_,fun H2 ρ2 st2 x R ok i hi=>?_,fun H2 ρ2 st2 x R ok i p hp y H3 hy=>?_⟩
  · obtain ⟨vs,s,r⟩:=h H2 ρ2 st2 x R (wOk_app ok).1
    obtain ⟨us,s',r'⟩:=h' H2 ρ2 st2 x R (wOk_app ok).2
    refine ⟨vs,us,s,s',?_⟩
    rw [zipT_len,<- r.length,<- r'.length]
    omega
  · obtain ⟨vs,s,r⟩:=h H2 ρ2 st2 x R (wOk_app ok).1
    obtain ⟨us,s',r'⟩:=h' H2 ρ2 st2 x R (wOk_app ok).2
    rw [zipT_len,r.length,r'.length] at hi
    have h1:i < vs.length:=by omega
    have h2:i < us.length:=by omega
    exact ⟨vs,us,vs[i],us[i],s,s',List.getElem?_eq_getElem h1,List.getElem?_eq_getElem h2⟩
  · obtain ⟨vs,s,r⟩:=h H2 ρ2 st2 x R (wOk_app ok).1
    obtain ⟨us,s',r'⟩:=h' H2 ρ2 st2 x R (wOk_app ok).2
    obtain ⟨q,u,v,hn,rfl,rfl,hv⟩:=hy
    obtain ⟨e1,e2⟩:=hv vs us s s'
    obtain ⟨xp,yp,rfl,p1,p2⟩:=zipT_get hp
    have sm:Same H2 (upd H2 q (.tup [u,v])):=same_new hn
    exact ⟨sm,q,[u,v],rfl,upd_same,R.fresh hn,RepL.cons ((r.i p1 e1).ext (Ext.same sm)) (RepL.cons ((r'.i p2 e2).ext (Ext.same sm)) RepL.nil)⟩
theorem si_zip {elts:List Expr} {kt:Nat} {tp:Pos} (hg:Gl X "zip") (hm:X.mg "zip" = none) (ha:SimA X E [a,b] mr) (hs:starEach [a,b] X.env=[(false,eval a X.env),(false,eval b X.env)]:=by rfl) (hs2:starEach [b] X.env=[(false,eval b X.env)]:=by rfl) :
    SimI X E (.Tuple elts kt tp) (.Call (.Name "zip" p) [a,b] [] pos) (mZip mr):=⟨fun Γ σ H ρ st P R' R G h k=>by
  have hb:Acc X.mg E H ρ _ (mr Γ st):=Acc.bind h
  have main:∀ t1 t2:Bool,(∀ p q st1,mr Γ st=.ok [p,q] st1->(t1=true <-> ∃ ys,p=.tup ys)/\(t2=true <-> ∃ ys,q=.tup ys))->WI X (.Tuple elts kt tp) (.Call (.Name "zip" p) [a,b] [] pos) σ H R':=fun t1 t2 ht=>by
    refine WI.of (pi_zip t1 t2 hg hm pa_w hs hs2) (ha.use' R G hb fun ps st1 H1 ρ1 vs eq x1 R1 G1 r1 h1=>?_)
    split at h1
    · rename_i p' q'
      split at h1
      · rename_i xs w ys w' e1 e2
        split at h1
        · rename_i hl
          obtain ⟨v,u,rfl,rv,ru⟩:=repL_two r1
          obtain ⟨ok1,b1,a1,rfl,z1,z1',sq1⟩:=src_at (K:=X.K) R1 rv e1
          obtain ⟨ok2,b2,a2,rfl,z2,z2',sq2⟩:=src_at (K:=X.K) R1 ru e2
          obtain ⟨g1,g2⟩:=ht _ _ _ eq
          have eb1:b1=t1:=by
            cases b1 with
            | true=>exact (g1.mpr (z1 rfl)).symm
            | false=>
              cases t1 with
              | false=>rfl
              | true=>obtain ⟨ys,e⟩:=g1.mp rfl; exact absurd e (z1' rfl ys)
          have eb2:b2=t2:=by
            cases b2 with
            | true=>exact (g2.mpr (z2 rfl)).symm
            | false=>
              cases t2 with
              | false=>rfl
              | true=>obtain ⟨ys,e⟩:=g2.mp rfl; exact absurd e (z2' rfl ys)
          subst eb1; subst eb2
          obtain ⟨vs1,s1,_⟩:=sq1 H1 ρ1 st1 (Ext.refl _ _) R1 ok1
          obtain ⟨vs2,s2,_⟩:=sq2 H1 ρ1 st1 (Ext.refl _ _) R1 ok2
          refine ⟨a1,a2,vs1,vs2,rfl,s1,s2,k (zipT xs ys,w ++ w') st1 H1 ρ1 _ (by simp only [mZip,eq,Res.bind,e1,e2,if_pos hl]) x1 R1 G1 (fun x hx=>?_) ?_ (src_zip sq1 sq2) (h1 H1 ρ1 (Ext.refl _ _) R1)⟩
          · rcases List.mem_append.mp hx with hx | hx
            · exact ok1 x hx
            · exact ok2 x hx
          · show (zipT xs ys).length<=sizeLine
            rw [zipT_len]
            exact le_lim (Nat.le_trans (Nat.min_le_left _ _) hl)
        · exact h1.elim
      · exact h1.elim
    · exact h1.elim
  have tt:∀ p:PV,∃ t:Bool,t=true <-> ∃ ys,p=.tup ys:=fun p=>by
    cases p with
    | tup ys=>exact ⟨true,fun _=>⟨ys,rfl⟩,fun _=>rfl⟩
    | _=>exact ⟨false,⟨fun z=>(by cases z),fun ⟨_,z⟩=>(by cases z)⟩⟩
  by_cases hz:∃ p q st1,mr Γ st=.ok [p,q] st1
  · obtain ⟨p0,q0,st0,e0⟩:=hz
    obtain ⟨t1,g1⟩:=tt p0
    obtain ⟨t2,g2⟩:=tt q0
    refine main t1 t2 fun p q st1 e=>?_
    rw [e0] at e; cases e
    exact ⟨g1,g2⟩
  · exact main true true fun p q st1 e=>absurd ⟨p,q,st1,e⟩ hz⟩
def enumT:Nat->List PV->List PV
  | _,[]=>[]
  | n,x :: xs=>.tup [.int n,x] :: enumT (n + 1) xs
theorem enumT_len:∀ (n:Nat) (xs:List PV),(enumT n xs).length=xs.length
  | _,[]=>rfl
  | n,x :: xs=>by rw [enumT,List.length_cons,enumT_len (n + 1) xs,List.length_cons]
theorem enumT_get:∀ {n:Nat} {xs:List PV} {i:Nat} {p:PV},(enumT n xs)[i]?=some p->∃ x,p=.tup [.int (n + i:Nat),x]/\xs[i]?=some x
  | n,[],i,p,h=>by simp [enumT] at h
  | n,x :: xs,0,p,h=>by
    simp [enumT] at h
    exact ⟨x,h.symm,rfl⟩
  | n,x :: xs,i + 1,p,h=>by
    rw [enumT,List.getElem?_cons_succ] at h
    obtain ⟨y,e1,e2⟩:=enumT_get h
    exact ⟨y,by rw [e1,show n + 1 + i=n + (i + 1) by omega],by simpa using e2⟩
def mEnum (mr:Gam->Store->Res (List PV)):MI:=fun Γ st=>(mr Γ st).bind fun ps st1=>match ps with
  | [p]=>match srcOf st1 p with
    | some (xs,w)=>if xs.length<=lim then .ok (enumT 0 xs,w) st1 else .stuck
    | none=>.stuck
  | _=>.stuck
theorem src_enum {K:PySem.W.Frag} {H:Hp} {ρ:Tk} {t:Bool} {a:Addr} {xs:List PV} {w:Wt} (h:∀ H2 ρ2 st2,Ext H ρ H2 ρ2->Rel H2 ρ2 st2->wOk w st2->∃ vs,SqK K t H2 a vs/\RepL H2 ρ2 xs vs):Src (Ite K t a) (enumT 0 xs) w H ρ:=by
  refine ⟨fun H2 ρ2 st2 x R ok=>?_,fun H2 ρ2 st2 x R ok i hi=>?_,fun H2 ρ2 st2 x R ok i p hp y H3 hy=>?_⟩
  · obtain ⟨vs,s,r⟩:=h H2 ρ2 st2 x R ok
    exact ⟨vs,s,by rw [enumT_len,r.length]; exact Nat.le_refl _⟩
  · obtain ⟨vs,s,r⟩:=h H2 ρ2 st2 x R ok
    rw [enumT_len,r.length] at hi
    exact ⟨vs,vs[i],s,List.getElem?_eq_getElem hi⟩
  · obtain ⟨vs,s,r⟩:=h H2 ρ2 st2 x R ok
    obtain ⟨q,u,hn,rfl,rfl,hv⟩:=hy
    have e1:=hv vs s
    obtain ⟨xp,rfl,p1⟩:=enumT_get hp
    have sm:Same H2 (upd H2 q (.tup [.int i,u])):=same_new hn
    exact ⟨sm,q,[.int i,u],rfl,upd_same,R.fresh hn,RepL.cons (by rw [Nat.zero_add]; rfl) (RepL.cons ((r.i p1 e1).ext (Ext.same sm)) RepL.nil)⟩
theorem si_enum {elts:List Expr} {kt:Nat} {tp:Pos} (hg:Gl X "enumerate") (hm:X.mg "enumerate" = none) (ha:SimA X E [a] mr) (hs:starEach [a] X.env=[(false,eval a X.env)]:=by rfl) :
    SimI X E (.Tuple elts kt tp) (.Call (.Name "enumerate" p) [a] [] pos) (mEnum mr):=⟨fun Γ σ H ρ st P R' R G h k=>by
  have hb:Acc X.mg E H ρ _ (mr Γ st):=Acc.bind h
  have main:∀ t1:Bool,(∀ p st1,mr Γ st=.ok [p] st1->(t1=true <-> ∃ ys,p=.tup ys))->WI X (.Tuple elts kt tp) (.Call (.Name "enumerate" p) [a] [] pos) σ H R':=fun t1 ht=>by
    refine WI.of (pi_enum t1 hg hm pa_w hs) (ha.use' R G hb fun ps st1 H1 ρ1 vs eq x1 R1 G1 r1 h1=>?_)
    split at h1
    · rename_i p'
      split at h1
      · rename_i xs w e1
        split at h1
        · rename_i hl
          obtain ⟨v,rfl,rv⟩:=repL_one r1
          obtain ⟨ok1,b1,a1,rfl,z1,z1',sq1⟩:=src_at (K:=X.K) R1 rv e1
          have g1:=ht _ _ eq
          have eb1:b1=t1:=by
            cases b1 with
            | true=>exact (g1.mpr (z1 rfl)).symm
            | false=>
              cases t1 with
              | false=>rfl
              | true=>obtain ⟨ys,e⟩:=g1.mp rfl; exact absurd e (z1' rfl ys)
          subst eb1
          obtain ⟨vs1,s1,_⟩:=sq1 H1 ρ1 st1 (Ext.refl _ _) R1 ok1
          refine ⟨a1,vs1,rfl,s1,k (enumT 0 xs,w) st1 H1 ρ1 _ (by simp only [mEnum,eq,Res.bind,e1,if_pos hl]) x1 R1 G1 ok1 ?_ (src_enum sq1) (h1 H1 ρ1 (Ext.refl _ _) R1)⟩
          show (enumT 0 xs).length<=sizeLine
          rw [enumT_len]
          exact le_lim hl
        · exact h1.elim
      · exact h1.elim
    · exact h1.elim
  have tt:∀ p:PV,∃ t:Bool,t=true <-> ∃ ys,p=.tup ys:=fun p=>by
    cases p with
    | tup ys=>exact ⟨true,fun _=>⟨ys,rfl⟩,fun _=>rfl⟩
    | _=>exact ⟨false,⟨fun z=>(by cases z),fun ⟨_,z⟩=>(by cases z)⟩⟩
  by_cases hz:∃ p st1,mr Γ st=.ok [p] st1
  · obtain ⟨p0,st0,e0⟩:=hz
    obtain ⟨t1,g1⟩:=tt p0
    refine main t1 fun p st1 e=>?_
    rw [e0] at e; cases e
    exact g1
  · exact main true fun p st1 e=>absurd ⟨p,st1,e⟩ hz⟩
end
end Sm
namespace Sm
open PySem PySem.Spec L2
abbrev ML:=Gam->Store->Res (List PV)
structure SimN (X:Cx) (E:XK) (e:Expr) (m:ML):Prop where
  run:∀ (Γ:Gam) (σ:St) (H:Hp) (ρ:Tk) (st:Store) (P:List PV->Store->Hp->Tk->Prop) (Q:VK),Rel H ρ st->EnvR H ρ Γ σ->Acc X.mg E H ρ P (m Γ st) ->
    (∀ ps st1 H1 ρ1 a vs,m Γ st=.ok ps st1->Ext H ρ H1 ρ1->Rel H1 ρ1 st1->a ∈ ρ1.hid->H a=none->H1 a=some (.lst vs)->RepL H1 ρ1 ps vs->Q (.ref a) H1)->WE X e σ H Q
def mVal (m:ML):ME:=fun Γ st=>(m Γ st).bind fun ps st1=>.ok (.lst ps) st1
def mTrk (m:ML):ME:=fun Γ st=>(m Γ st).bind fun ps st1=>.ok (.ref st1.length) (st1 ++ [.lst ps])
section
variable {H0 H:Hp} {ρ0 ρ:Tk} {st:Store} {a:Addr} {ps:List PV} {vs:List V}
theorem out_val (R0:Rel H0 ρ0 st) (x:Ext H0 ρ0 H ρ) {st1:Store} (R:Rel H ρ st1) (hm:a ∈ ρ.hid) (hn:H0 a=none) (ha:H a=some (.lst vs)) (r:RepL H ρ ps vs) :
    Ext H0 ρ0 H ⟨ρ.tr,ρ0.hid⟩/\Rel H ⟨ρ.tr,ρ0.hid⟩ st1/\Rep H ⟨ρ.tr,ρ0.hid⟩ (.lst ps) (.ref a):=
  ⟨x.unhide,R.unhide x.hidM,a,vs,rfl,ha,(fun z=>by
    rcases z with z | z
    · exact R.ap a hm z
    · obtain ⟨o,e⟩:=R0.hd a z
      rw [hn] at e; cases e),r.unhide x.hidM⟩
mutual
theorem Rep.trk {b:Addr} {hs:List Addr} (hb:b ∈ ρ.hid) (hh:∀ c,c ∈ hs->c ∈ ρ.hid):∀ {p:PV} {v:V},Rep H ρ p v->Rep H ⟨ρ.tr ++ [b],hs⟩ p v
  | .non,_,r=>r
  | .bl _,_,r=>r
  | .int _,_,r=>r
  | .str _,_,r=>r
  | .tup ps,v,⟨c,vs,e,s,n,r⟩=>⟨c,vs,e,s,fun z=>by
      rcases z with z | z
      · rcases List.mem_append.mp z with z | z
        · exact n (.inl z)
        · have:c=b:=by simpa using z
          subst this; exact n (.inr hb)
      · exact n (.inr (hh _ z)),RepL.trk hb hh r⟩
  | .lst ps,v,⟨c,vs,e,s,n,r⟩=>⟨c,vs,e,s,fun z=>by
      rcases z with z | z
      · rcases List.mem_append.mp z with z | z
        · exact n (.inl z)
        · have:c=b:=by simpa using z
          subst this; exact n (.inr hb)
      · exact n (.inr (hh _ z)),RepL.trk hb hh r⟩
  | .fro ps,v,⟨c,vs,e,s,n,r⟩=>⟨c,vs,e,s,fun z=>by
      rcases z with z | z
      · rcases List.mem_append.mp z with z | z
        · exact n (.inl z)
        · have:c=b:=by simpa using z
          subst this; exact n (.inr hb)
      · exact n (.inr (hh _ z)),RepL.trk hb hh r⟩
  | .ref i,v,⟨c,e,e2⟩=>⟨c,by show (ρ.tr ++ [b])[i]?=some c; rw [List.getElem?_append_left (List.getElem?_eq_some_iff.mp e).1]; exact e,e2⟩
  | .dic,v,⟨c,e,s,n⟩=>⟨c,e,s,fun z=>by
      rcases z with z | z
      · rcases List.mem_append.mp z with z | z
        · exact n (.inl z)
        · have:c=b:=by simpa using z
          subst this; exact n (.inr hb)
      · exact n (.inr (hh _ z))⟩
theorem RepL.trk {b:Addr} {hs:List Addr} (hb:b ∈ ρ.hid) (hh:∀ c,c ∈ hs->c ∈ ρ.hid):∀ {ps:List PV} {vs:List V},RepL H ρ ps vs->RepL H ⟨ρ.tr ++ [b],hs⟩ ps vs
  | [],_,r=>r
  | p :: ps,_,⟨v,t,e,r1,r2⟩=>⟨v,t,e,Rep.trk hb hh r1,RepL.trk hb hh r2⟩
end
theorem out_trk (R0:Rel H0 ρ0 st) (x:Ext H0 ρ0 H ρ) {st1:Store} (R:Rel H ρ st1) (hm:a ∈ ρ.hid) (hn:H0 a=none) (ha:H a=some (.lst vs)) (r:RepL H ρ ps vs) :
    Ext H0 ρ0 H ⟨ρ.tr ++ [a],ρ0.hid⟩/\Rel H ⟨ρ.tr ++ [a],ρ0.hid⟩ (st1 ++ [.lst ps])/\Rep H ⟨ρ.tr ++ [a],ρ0.hid⟩ (.ref st1.length) (.ref a):=by
  have na0:a ∉ ρ0.hid:=fun z=>by
    obtain ⟨o,e⟩:=R0.hd a z
    rw [hn] at e; cases e
  refine ⟨⟨x.pre.trans (List.prefix_append _ _),fun _ h=>h,fun _ h=>.inl h,x.keep,fun b hb=>?_,x.old⟩,⟨?_,?_,fun b hb=>R.hd b (x.hidM b hb),fun b hb z=>?_,fun i b c h1 h2=>?_⟩,a,?_,rfl⟩
  · rcases List.mem_append.mp hb with z | z
    · exact x.new b z
    · have:b=a:=by simpa using z
      subst this; exact .inr hn
  · show (ρ.tr ++ [a]).length=_
    rw [List.length_append,List.length_append,R.len]; rfl
  · show (ρ.tr ++ [a]).Nodup
    refine List.nodup_append.mpr ⟨R.nd,by simp,fun b hb c hc e=>?_⟩
    have:c=a:=by simpa using hc
    subst this; subst e
    exact R.ap b hm hb
  · rcases List.mem_append.mp z with z | z
    · exact R.ap b (x.hidM b hb) z
    · have:b=a:=by simpa using z
      subst this; exact na0 hb
  · have h1:(ρ.tr ++ [a])[i]?=some b:=h1
    by_cases hi:i < st1.length
    · rw [List.getElem?_append_left (by rw [R.len]; exact hi)] at h1
      rw [List.getElem?_append_left hi] at h2
      have q:=R.cell i b c h1 h2
      cases c with
      | lst qs=>
        obtain ⟨us,e1,e2⟩:=q
        exact ⟨us,e1,e2.trk hm x.hidM⟩
    · rw [List.getElem?_append_right (by rw [R.len]; omega)] at h1
      rw [List.getElem?_append_right (by omega)] at h2
      have e0:i - st1.length=0:=by
        rcases Nat.eq_zero_or_pos (i - st1.length) with z | z
        · exact z
        · rw [List.getElem?_eq_none (by simp; omega)] at h2; cases h2
      rw [R.len,e0] at h1
      rw [e0] at h2
      simp at h1 h2
      subst h1; subst h2
      exact ⟨vs,ha,r.trk hm x.hidM⟩
  · show (ρ.tr ++ [a])[st1.length]?=some a
    rw [<- R.len,List.getElem?_append_right (Nat.le_refl _),Nat.sub_self]; rfl
end
section
variable {X:Cx} {E:XK} {pos:Pos} {e:Expr} {m:ML}
theorem se_val (h:SimN X E e m):SimE X E e (mVal m):=⟨fun Γ σ H ρ st Q R G hq=>h.run Γ σ H ρ st _ Q R G hq.bind fun ps st1 H1 ρ1 a vs eq x R1 hm hn ha r=>by
  obtain ⟨x2,R2,r2⟩:=out_val R x R1 hm hn ha r
  unfold mVal at hq
  rw [eq] at hq
  exact hq _ _ x2 R2 _ r2⟩
theorem se_trk (h:SimN X E e m):SimE X E e (mTrk m):=⟨fun Γ σ H ρ st Q R G hq=>h.run Γ σ H ρ st _ Q R G hq.bind fun ps st1 H1 ρ1 a vs eq x R1 hm hn ha r=>by
  obtain ⟨x2,R2,r2⟩:=out_trk R x R1 hm hn ha r
  unfold mTrk at hq
  rw [eq] at hq
  exact hq _ _ x2 R2 _ r2⟩
variable {es:List Expr} {mr:Gam->Store->Res (List PV)} {a b:Expr} {ma mb:ME}
theorem new_at {H1:Hp} {ρ1:Tk} {st1:Store} {H:Hp} {ρ:Tk} {Q:VK} {ps:List PV} {vs:List V} (x:Ext H ρ H1 ρ1) (R1:Rel H1 ρ1 st1) (r:RepL H1 ρ1 ps vs)
    (k:∀ H1 ρ1 a vs,Ext H ρ H1 ρ1->Rel H1 ρ1 st1->a ∈ ρ1.hid->H a=none->H1 a=some (.lst vs)->RepL H1 ρ1 ps vs->Q (.ref a) H1):∀ p,H1 p=none->Q (.ref p) (upd H1 p (.lst vs)):=fun p hp=>by
  refine k _ (ρ1.hide p) p vs (x.trans (Ext.hide hp)) (R1.hide hp) List.mem_cons_self ?_ upd_same (r.hide hp)
  cases e:H p with
  | none=>rfl
  | some o=>
    obtain ⟨o',e'⟩:=x.old p o e
    rw [hp] at e'; cases e'
def mLstN (mr:Gam->Store->Res (List PV)):ML:=fun Γ st=>(mr Γ st).bind fun ps st1=>if ps.length<=lim then .ok ps st1 else .stuck
theorem sn_lst (h:SimA X E es mr):SimN X E (.List es pos) (mLstN mr):=
  ⟨fun Γ σ H ρ st P Q R G hq k=>WE.of (pe_lst pa_w) (h.use' R G hq.bind fun ps st1 H1 ρ1 vs eq x1 R1 G1 r1 h1=>by
    by_cases hl:ps.length<=lim
    · refine ⟨by rw [<- r1.length]; exact le_lim hl,new_at x1 R1 r1 fun H2 ρ2 a us=>k ps st1 H2 ρ2 a us ?_⟩
      unfold mLstN
      rw [eq]
      exact if_pos hl
    · rw [if_neg hl] at h1; exact h1.elim)⟩
def mListN (ma:ME):ML:=fun Γ st=>(ma Γ st).bind fun p st1=>match seqOf st1 p with
  | some xs=>.ok xs st1
  | none=>.stuck
theorem sn_list {p:Pos} (ha:SimE X E a ma) (hg:Gl X "list") (hm:X.mg "list" = none) (he:starEach [a] X.env=(false,eval a X.env) :: starEach [] X.env:=by rfl):SimN X E (.Call (.Name "list" p) [a] [] pos) (mListN ma):=
  ⟨fun Γ σ H ρ st P Q R G hq k=>WE.of (pe_callTy call_list_of hg hm boot_list (pa_cons pe_w pa_nil he) (by decide) (by decide) he rfl) (ha.use' R G hq.bind fun q st1 H1 ρ1 v eq x1 R1 G1 r1 h1=>by
    split at h1
    · rename_i xs e
      obtain ⟨t,b,vs,rfl,hq2,ra⟩:=seq_at (K:=X.K) R1 r1 e
      refine ⟨b,vs,rfl,sqK_or hq2,new_at x1 R1 ra fun H2 ρ2 a us=>k xs st1 H2 ρ2 a us ?_⟩
      unfold mListN
      rw [eq]
      show (match seqOf st1 q with | some xs=>Res.ok xs st1 | none=>.stuck)=_
      rw [e]
    · exact h1.elim)⟩
def oAddN (st:Store) (p q:PV):Res (List PV):=match lstOf st p,lstOf st q with
  | some xs,some ys=>if xs.length + ys.length<=lim then .ok (xs ++ ys) st else .stuck
  | _,_=>.stuck
def mAddN (ma mb:ME):ML:=fun Γ st=>(ma Γ st).bind fun x st1=>(mb Γ st1).bind fun y st2=>oAddN st2 x y
def oRepN (st:Store) (p q:PV):Res (List PV):=match lstOf st p,q with
  | some xs,.int b=>if -(2 ^ 63)<=b/\b < 2 ^ 63/\xs.length * b.toNat<=lim then .ok (List.replicate b.toNat xs).flatten st else .stuck
  | _,_=>.stuck
def mRepN (ma mb:ME):ML:=fun Γ st=>(ma Γ st).bind fun x st1=>(mb Γ st1).bind fun y st2=>oRepN st2 x y
theorem sn_rep (ha:SimE X E a ma) (hb:SimE X E b mb):SimN X E (.BinOp a .Mult b pos) (mRepN ma mb):=
  ⟨fun Γ σ H ρ st P Q R G hq k=>WE.of (pe_op op_rep pe_w pe_w) (ha.use' R G hq.bind fun p st1 H1 ρ1 v e1 x1 R1 G1 r1 h1=>hb.use' R1 G1 h1.bind fun q st2 H2 ρ2 u e2 x2 R2 G2 r2 h2=>by
    unfold oRepN at h2
    split at h2
    · rename_i xs bb f1
      split at h2
      · rename_i hl
        cases r2
        obtain ⟨c,vs,rfl,hc,rc⟩:=lst_at R2 (r1.ext x2) f1
        refine ⟨c,bb,vs,rfl,rfl,hc,hl.1,hl.2.1,by rw [<- rc.length]; exact le_lim hl.2.2,new_at (x1.trans x2) R2 (rc.rep _) fun H3 ρ3 a ws=>k _ st2 H3 ρ3 a ws ?_⟩
        unfold mRepN oRepN
        rw [e1]
        show (mb Γ st1).bind _=_
        rw [e2]
        show (match lstOf st2 p,PV.int bb with | some xs,.int b=>if -(2 ^ 63)<=b/\b < 2 ^ 63/\xs.length * b.toNat<=lim then Res.ok (List.replicate b.toNat xs).flatten st2 else .stuck | _,_=>.stuck)=_
        rw [f1]
        exact if_pos hl
      · exact h2.elim
    · exact h2.elim)⟩
end
end Sm
namespace Sm
open PySem PySem.Spec L2
def capG (cap:List (Option Nat)) (Γ:Gam):Gam:=cap.map fun c=>c.bind fun j=>(Γ[j]?).join
theorem EnvR.cap {H:Hp} {ρ:Tk} {Γ:Gam} {σ:St} (h:EnvR H ρ Γ σ) (cap:List (Option Nat)):EnvR H ρ (capG cap Γ) (capOf cap σ):=by
  refine ⟨by unfold capG capOf; rw [List.length_map,List.length_map],fun i p e=>?_⟩
  unfold capG at e
  unfold capOf
  rw [List.getElem?_map] at e ⊢
  cases q:cap[i]? with
  | none=>rw [q] at e; cases e
  | some c=>
    rw [q] at e
    cases c with
    | none=>cases e
    | some j=>
      have e':(Γ[j]?).join=some p:=Option.some.inj e
      cases r:Γ[j]? with
      | none=>rw [r] at e'; cases e'
      | some o=>
        rw [r] at e'
        have:o=some p:=e'
        subst this
        obtain ⟨v,e1,e2⟩:=h.2 j p r
        exact ⟨v,by show some ((σ[j]?).join)=some (some v); rw [e1]; rfl,e2⟩
def FreeT (cap:List (Option Nat)) (ga:GA):Prop:=∀ Γ p Γ1,ga p (capG cap Γ)=some Γ1->Γ1.length=(capG cap Γ).length/\∀ (i:Nat) (q:PV),(capG cap Γ)[i]?=some (some q)->Γ1[i]?=some (some q)
theorem capG_none {cap:List (Option Nat)} {i:Nat} (h:cap[i]?=some none) (Γ:Gam):(capG cap Γ)[i]?=some none:=by
  unfold capG
  rw [List.getElem?_map,h]; rfl
theorem free_name {cap:List (Option Nat)} {i:Nat} (h:cap[i]?=some none:=by rfl):FreeT cap (gaName i):=fun Γ p Γ1 e=>by
  cases e
  refine ⟨List.length_set ..,fun j q hj=>?_⟩
  rw [List.getElem?_set_ne fun z=>?_]
  · exact hj
  · subst z; rw [capG_none h] at hj; cases hj
def FreeL (cap:List (Option Nat)) (ga:GAs):Prop:=∀ Γ ps Γ0 Γ1,(∀ (i:Nat) (q:PV),(capG cap Γ)[i]?=some (some q)->Γ0[i]?=some (some q))->ga ps Γ0=some Γ1->Γ1.length=Γ0.length/\∀ (i:Nat) (q:PV),(capG cap Γ)[i]?=some (some q)->Γ1[i]?=some (some q)
theorem free_nil {cap:List (Option Nat)}:FreeL cap gaNil:=fun Γ ps Γ0 Γ1 h e=>by
  cases ps with
  | nil=>cases e; exact ⟨rfl,h⟩
  | cons _ _=>cases e
theorem free_cons {cap:List (Option Nat)} {i:Nat} {gs:GAs} (hs:FreeL cap gs) (h:cap[i]?=some none:=by rfl):FreeL cap (gaCons (gaName i) gs):=fun Γ ps Γ0 Γ1 h0 e=>by
  cases ps with
  | nil=>cases e
  | cons p ps=>
    obtain ⟨a,b⟩:=hs Γ ps (Γ0.set i (some p)) Γ1 (fun k r hk=>by
      rw [List.getElem?_set_ne fun z=>?_]
      · exact h0 k r hk
      · subst z; rw [capG_none h] at hk; cases hk) e
    exact ⟨by rw [a,List.length_set],b⟩
theorem free_tup {cap:List (Option Nat)} {gs:GAs} (hs:FreeL cap gs):FreeT cap (gaTup gs):=fun Γ p Γ1 e=>by
  cases p with
  | tup ps=>exact hs Γ ps _ Γ1 (fun _ _ h=>h) e
  | _=>cases e
open Classical in
def compG (ga:GA) (mt:MT) (me:ME) (w:Wt) (Γ0:Gam):List PV->Store->Res (List PV)
  | [],st=>if wOk w st then .ok [] st else .stuck
  | x :: xs,st=>if wOk w st then (match ga x Γ0 with
    | none=>.stuck
    | some Γ1=>(mt Γ1 st).bind fun b st1=>if b=true then (me Γ1 st1).bind fun y st2=>(compG ga mt me w Γ0 xs st2).bind fun ys st3=>.ok (y :: ys) st3 else compG ga mt me w Γ0 xs st1) else .stuck
def noX {α:Type}:Res α->Res α
  | .exc _ _=>.stuck
  | r=>r
def mCompN (cap:List (Option Nat)) (ga:GA) (mi:MI) (mt:MT) (me:ME):ML:=fun Γ st=>(mi Γ st).bind fun iw st1=>noX (compG ga mt me iw.2 (capG cap Γ) iw.1 st1)
structure SimTs (X:Cx) (ifs:List Expr) (m:MT):Prop where
  run:∀ (Γ:Gam) (σ:St) (H:Hp) (ρ:Tk) (st:Store) (P:Bool->Store->Hp->Tk->Prop) (Q:Bool->Hp->Prop),Rel H ρ st->EnvR H ρ Γ σ->Acc X.mg E0 H ρ P (m Γ st) ->
    (∀ b st1 H1 ρ1,m Γ st=.ok b st1->Ext H ρ H1 ρ1->Rel H1 ρ1 st1->EnvR H1 ρ1 Γ σ->Q b H1)->∃ t,PTs X ifs t/\t σ H Q
def mTrue:MT:=fun _ st=>.ok true st
theorem sts_nil {X:Cx}:SimTs X [] mTrue:=⟨fun Γ σ H ρ st P Q R G h k=>⟨_,pts_nil,k true st H ρ rfl (Ext.refl _ _) R G⟩⟩
theorem sts_one {X:Cx} {c:Expr} {m:MT} (hc:SimT X E0 c m):SimTs X [c] m:=⟨fun Γ σ H ρ st P Q R G h k=>⟨_,pts_one pt_w,hc.use' R G h fun b st1 H1 ρ1 e x1 R1 G1 p=>k b st1 H1 ρ1 e x1 R1 G1⟩⟩
theorem acc_noX {α:Type} {mg:Str->Option Value} {E E':XK} {H:Hp} {ρ:Tk} {P:α->Store->Hp->Tk->Prop} {r:Res α} (h:Acc mg E H ρ P (noX r)):Acc mg E' H ρ P r:=by
  cases r with
  | ok a st=>exact h
  | exc x st=>exact h.elim
  | stuck=>exact h
theorem Res.assoc {α β γ:Type} (r:Res α) (f:α->Store->Res β) (g:β->Store->Res γ):(r.bind f).bind g=r.bind fun a st=>(f a st).bind g:=by cases r <;> rfl
theorem Acc.assoc {α β γ:Type} {mg:Str->Option Value} {E:XK} {H:Hp} {ρ:Tk} {P:γ->Store->Hp->Tk->Prop} {r:Res α} {f:α->Store->Res β} {g:β->Store->Res γ} (h:Acc mg E H ρ P ((r.bind f).bind g)):Acc mg E H ρ P (r.bind fun a st=>(f a st).bind g):=by
  rw [<- Res.assoc]; exact h
theorem EnvR.le {H:Hp} {ρ:Tk} {Γ Γ':Gam} {σ:St} (h:EnvR H ρ Γ' σ) (hl:Γ.length=σ.length) (k:∀ (i:Nat) (q:PV),Γ[i]?=some (some q)->Γ'[i]?=some (some q)):EnvR H ρ Γ σ:=⟨hl,fun i p e=>h.2 i p (k i p e)⟩
section
variable {X:Cx} {E:XK} {pos:Pos} {tg iter elt:Expr} {ifs:List Expr} {N N':List Str} {sc scE:Scope} {cap:List (Option Nat)} {ga:GA} {mi:MI} {mt:MT} {me:ME}
def aE (X:Cx) (N':List Str) (sc:Scope) (e:Expr):TE:=fun σ H Q=>∀ cl C s0 H0 ex,WE (blkC X N' sc cl C s0 H0 ex) e σ H Q
def aG (X:Cx) (N':List Str) (sc:Scope) (tg:Expr):TG:=fun v σ H Q=>∀ cl C s0 H0 ex,WGx (blkC X N' sc cl C s0 H0 ex) tg v σ H Q
def aT (X:Cx) (N':List Str) (sc:Scope) (ifs:List Expr):TT:=fun σ H Q=>∀ cl C s0 H0 ex,∃ t,PTs (blkC X N' sc cl C s0 H0 ex) ifs t/\t σ H Q
theorem comp_body {Γ:Gam} {σ:St} {H1:Hp} {ρ1:Tk} {st1:Store} {J:It} {items:List PV} {w:Wt} {Q:VK} {P:List PV->Store->Hp->Tk->Prop} (hg:∀ cl C s0 H0 ex,SimG (blkC X N' sc cl C s0 H0 ex) tg ga) (he:∀ cl C s0 H0 ex,SimE (blkC X N' sc cl C s0 H0 ex) E0 elt me) (ht:∀ cl C s0 H0 ex,SimTs (blkC X N' sc cl C s0 H0 ex) ifs mt)
    (hf:FreeT cap ga) (R1:Rel H1 ρ1 st1) (G1:EnvR H1 ρ1 Γ σ) (src:Src J items w H1 ρ1) (hlen:items.length<=sizeLine) (h:Acc X.mg E0 H1 ρ1 P (compG ga mt me w (capG cap Γ) items st1))
    (k:∀ ys st2 H2 ρ2 acc vs,compG ga mt me w (capG cap Γ) items st1=.ok ys st2->Ext H1 ρ1 H2 ρ2->Rel H2 ρ2 st2->acc ∈ ρ2.hid->H1 acc=none->H2 acc=some (.lst vs)->RepL H2 ρ2 ys vs->Q (.ref acc) H2):compBodyT J cap (aG X N' sc tg) (aT X N' sc ifs) (aE X N' sc elt) σ H1 Q:=by
  intro acc hacc
  let W:Nat->Nat->List V->St->Hp->Prop:=fun i m vs σ' H'=>m=items.length - i/\i<=items.length/\vs.length<=i/\∃ ρ' st' ys,Ext H1 ρ1 H' ρ'/\acc ∈ ρ'.hid/\Rel H' ρ' st'/\EnvR H' ρ' (capG cap Γ) σ'/\H' acc=some (.lst vs)/\RepL H' ρ' ys vs /\
    compG ga mt me w (capG cap Γ) items st1=(compG ga mt me w (capG cap Γ) (items.drop i) st').bind fun zs st3=>.ok (ys ++ zs) st3
  refine ⟨W,⟨_,rfl,Nat.zero_le _,Nat.le_refl _,ρ1.hide acc,st1,[],Ext.hide hacc,List.mem_cons_self,R1.hide hacc,(G1.cap cap).hide hacc,upd_same,rfl,?_⟩,?_⟩
  · rw [List.drop_zero]
    cases r:compG ga mt me w (capG cap Γ) items st1 with
    | ok zs st3=>rfl
    | exc x st3=>rfl
    | stuck=>rfl
  rintro i m vs σ' H' ⟨hm,hi,hvl,ρ',st',ys,x,hmem,R',G',ha,ry,hq⟩
  have hA:Acc X.mg E0 H1 ρ1 P ((compG ga mt me w (capG cap Γ) (items.drop i) st').bind fun zs st3=>.ok (ys ++ zs) st3):=by rw [<- hq]; exact h
  refine ⟨ha,?_⟩
  by_cases hlt:i < items.length
  · right
    have hd:items.drop i=items[i] :: items.drop (i + 1):=List.drop_eq_getElem_cons hlt
    rw [hd,compG] at hA hq
    by_cases hw:wOk w st'
    · rw [if_pos hw] at hA hq
      refine ⟨src.go H' _ st' x R' hw i hlt,by omega,fun y H2 hy=>?_⟩
      obtain ⟨sm,ry2⟩:=src.yld H' _ st' x R' hw i _ (List.getElem?_eq_getElem hlt) y H2 hy
      cases eg:ga items[i] (capG cap Γ) with
      | none=>rw [eg] at hA; exact hA.elim
      | some Γ1=>
        rw [eg] at hA hq
        have x2:Ext H' ρ' H2 ρ':=Ext.same sm
        have R2:=R'.same sm
        intro cl C s0 H0 ex
        refine (hg cl C s0 H0 ex).run (capG cap Γ) Γ1 σ' H2 ρ' _ y _ (G'.ext x2) ry2 eg fun σ3 G3=>?_
        intro cl C s0 H0 ex
        have hA2:=Acc.later hA (x.trans x2)
        refine (ht cl C s0 H0 ex).run Γ1 σ3 H2 ρ' st' _ _ R2 G3 (Acc.bind (Acc.assoc hA2)) fun b st4 H4 ρ4 e4 x4 R4 G4=>?_
        simp only [e4,Res.bind] at hA hq
        have G0:∀ {H'':Hp} {ρ'':Tk},EnvR H'' ρ'' Γ1 σ3->EnvR H'' ρ'' (capG cap Γ) σ3:=fun {H'' ρ''} g=>g.le (by
          rw [<- G3.1]
          exact (hf Γ _ Γ1 eg).1.symm) (hf Γ _ Γ1 eg).2
        have x14:Ext H1 ρ1 H4 ρ4:=x.trans (x2.trans x4)
        have hm4:acc ∈ ρ4.hid:=x4.hidM acc hmem
        have na:acc ∉ ρ'.tr:=R'.ap acc hmem
        have ha4:H4 acc=some (.lst vs):=x4.keep acc _ (sm acc _ ha) na
        have ry4:RepL H4 ρ4 ys vs:=ry.ext (x2.trans x4)
        cases b with
        | false=>
          rw [if_neg Bool.false_ne_true] at hA hq ⊢
          exact ⟨_,show items.length - (i + 1) < m by omega,rfl,hlt,by omega,ρ4,st4,ys,x14,hm4,R4,G0 G4,ha4,ry4,hq⟩
        | true=>
          rw [if_pos rfl] at hA hq ⊢
          intro cl C s0 H0 ex
          have hA4:=Acc.later hA x14
          refine (he cl C s0 H0 ex).use' R4 G4 (Acc.bind (Acc.assoc hA4)) fun z st5 H5 ρ5 zv e5 x5 R5 G5 r5 h5=>?_
          simp only [e5,Res.bind] at hA hq
          have hm5:acc ∈ ρ5.hid:=x5.hidM acc hm4
          have ha5:H5 acc=some (.lst vs):=x5.keep acc _ ha4 (R4.ap acc hm4)
          have x15:Ext H1 ρ1 H5 ρ5:=x14.trans x5
          refine ⟨ha5,_,show items.length - (i + 1) < m by omega,rfl,hlt,by rw [List.length_append]; simp; omega,ρ5,st5,ys ++ [z],x15.put0 hacc,hm5,R5.rehide hm5,(G0 G5).rehide hm5,upd_same,((ry4.ext x5).append (RepL.cons r5 RepL.nil)).rehide hm5,?_⟩
          refine hq.trans ?_
          cases rr:compG ga mt me w (capG cap Γ) (items.drop (i + 1)) st5 with
          | ok zs st6=>
            show Res.ok (ys ++ z :: zs) st6=Res.ok ((ys ++ [z]) ++ zs) st6
            rw [List.append_assoc]; rfl
          | exc x6 st6=>rfl
          | stuck=>rfl
    · rw [if_neg hw] at hA; exact hA.elim
  · left
    have ei:i=items.length:=by omega
    subst ei
    rw [List.drop_length,compG] at hA hq
    by_cases hw:wOk w st'
    · rw [if_pos hw] at hA hq
      refine ⟨src.stop H' _ st' x R' hw,?_⟩
      have hq:compG ga mt me w (capG cap Γ) items st1=.ok (ys ++ []) st':=hq
      rw [List.append_nil] at hq
      exact k ys st' H' ρ' acc vs hq x R' hmem hacc ha ry
    · rw [if_neg hw] at hA; exact hA.elim
theorem comp_run {Γ:Gam} {σ:St} {H:Hp} {ρ:Tk} {st:Store} {Q:VK} {P:List PV->Store->Hp->Tk->Prop} (hi:SimI X E tg iter mi) (hg:∀ cl C s0 H0 ex,SimG (blkC X N' sc cl C s0 H0 ex) tg ga) (he:∀ cl C s0 H0 ex,SimE (blkC X N' sc cl C s0 H0 ex) E0 elt me) (ht:∀ cl C s0 H0 ex,SimTs (blkC X N' sc cl C s0 H0 ex) ifs mt)
    (hf:FreeT cap ga) (R:Rel H ρ st) (G:EnvR H ρ Γ σ) (h:Acc X.mg E H ρ P (mCompN cap ga mi mt me Γ st)) (k:∀ ps st2 H2 ρ2 a vs,mCompN cap ga mi mt me Γ st=.ok ps st2->Ext H ρ H2 ρ2->Rel H2 ρ2 st2->a ∈ ρ2.hid->H a=none->H2 a=some (.lst vs)->RepL H2 ρ2 ps vs->Q (.ref a) H2):tCompT cap (WI X tg iter) (aG X N' sc tg) (aT X N' sc ifs) (aE X N' sc elt) σ H Q:=by
  refine hi.run Γ σ H ρ st _ _ R G h.bind fun iw st1 H1 ρ1 J eq x1 R1 G1 ok hl src h1=>?_
  refine comp_body hg he ht hf R1 G1 src hl (acc_noX (E':=E0) h1) fun ys st2 H2 ρ2 acc vs eq2 x2 R2 hm hn ha ry=>?_
  refine k ys st2 H2 ρ2 acc vs ?_ (x1.trans x2) R2 hm ?_ ha ry
  · unfold mCompN
    rw [eq]
    show noX _=_
    rw [eq2]; rfl
  cases e:H acc with
  | none=>rfl
  | some o=>
    obtain ⟨o',e'⟩:=x1.old acc o e
    rw [hn] at e'; cases e'
theorem pg_a {N':List Str} {sc:Scope} {tg:Expr}:∀ cl C s0 H0 ex,PG (blkC X N' sc cl C s0 H0 ex) tg (aG X N' sc tg):=fun cl C s0 H0 ex pins s σ H v u Q I r h=>pg_x pins s σ H v u Q I r (h cl C s0 H0 ex)
theorem pe_a {N':List Str} {sc:Scope} {e:Expr}:∀ cl C s0 H0 ex,PE (blkC X N' sc cl C s0 H0 ex) e (aE X N' sc e):=fun cl C s0 H0 ex pins s σ H Q I h=>h cl C s0 H0 ex pins s I
theorem pts_a {N':List Str} {sc:Scope} {ifs:List Expr}:∀ cl C s0 H0 ex,PTs (blkC X N' sc cl C s0 H0 ex) ifs (aT X N' sc ifs):=fun cl C s0 H0 ex pins s σ H Q I h=>by
  obtain ⟨t,a,b⟩:=h cl C s0 H0 ex
  exact a pins s σ H Q I b
theorem sn_comp (cap:List (Option Nat)) (N':List Str) (hcalm:X.calm=true) (hi:SimI X E tg iter mi) (hg:∀ cl C s0 H0 ex,SimG (blkC X N' sc cl C s0 H0 ex) tg ga) (he:∀ cl C s0 H0 ex,SimE (blkC X N' sc cl C s0 H0 ex) E0 elt me) (ht:∀ cl C s0 H0 ex,SimTs (blkC X N' sc cl C s0 H0 ex) ifs mt)
    (hf:FreeT cap ga) (hN:X.N=N:=by rfl) (hE:X.env.scope=scE:=by rfl) (hc:compOkC N N' sc scE cap=true:=by kernel_rfl) (hs:∀ x,foldedSetIterable iter X.env x=pure x:=by intro _; rfl) :
    SimN X E (.ListComp elt [⟨tg,iter,ifs,0⟩] sc pos) (mCompN cap ga mi mt me):=
  ⟨fun Γ σ H ρ st P Q R G h k=>WE.of (pe_compT hcalm pi_w pg_a pe_a pts_a hN hE hc hs) (comp_run hi hg he ht hf R G h k)⟩
end
end Sm
namespace Sm
open PySem PySem.Spec L2
inductive SR where
  | nx (Γ:Gam) (st:Store) | rt (v:PV) (st:Store) | bk (Γ:Gam) (st:Store) | ct (Γ:Gam) (st:Store) | exc (x:Exc) (st:Store) | stuck
abbrev MS:=Gam->Store->SR
def Res.sbind {α:Type} (r:Res α) (f:α->Store->SR):SR:=match r with
  | .ok a st=>f a st
  | .exc x st=>.exc x st
  | .stuck=>.stuck
def AccS (mg:Str->Option Value) (E:XK) (D:Ends) (H:Hp) (ρ:Tk):SR->Prop
  | .nx Γ st=>∀ σ' H' ρ',Ext H ρ H' ρ'->Rel H' ρ' st->EnvR H' ρ' Γ σ'->D.nx σ' H'
  | .bk Γ st=>∀ σ' H' ρ',Ext H ρ H' ρ'->Rel H' ρ' st->EnvR H' ρ' Γ σ'->D.bk σ' H'
  | .ct Γ st=>∀ σ' H' ρ',Ext H ρ H' ρ'->Rel H' ρ' st->EnvR H' ρ' Γ σ'->D.ct σ' H'
  | .rt p st=>∀ v H' ρ',Ext H ρ H' ρ'->Rel H' ρ' st->Rep H' ρ' p v->D.rt v H'
  | .exc x st=>∀ C dv H' ρ',mg x.cls=some (.ref C)->Ext H ρ H' ρ'->Rel H' ρ' st->XFs H' ρ' x.fs dv->E (.ref C) dv H'
  | .stuck=>False
section
variable {α:Type} {mg:Str->Option Value} {E:XK} {D:Ends} {H H1:Hp} {ρ ρ1:Tk}
theorem AccS.later {r:SR} (h:AccS mg E D H ρ r) (x:Ext H ρ H1 ρ1):AccS mg E D H1 ρ1 r:=by
  cases r with
  | nx Γ st=>exact fun σ' H' ρ' x'=>h σ' H' ρ' (x.trans x')
  | bk Γ st=>exact fun σ' H' ρ' x'=>h σ' H' ρ' (x.trans x')
  | ct Γ st=>exact fun σ' H' ρ' x'=>h σ' H' ρ' (x.trans x')
  | rt p st=>exact fun v H' ρ' x'=>h v H' ρ' (x.trans x')
  | exc y st=>exact fun C dv H' ρ' m x'=>h C dv H' ρ' m (x.trans x')
  | stuck=>exact h
theorem AccS.bind {r:Res α} {f:α->Store->SR} (h:AccS mg E D H ρ (r.sbind f)):Acc mg E H ρ (fun a st1 H1 ρ1=>AccS mg E D H1 ρ1 (f a st1)) r:=by
  cases r with
  | ok a st=>exact fun H' ρ' x' R'=>AccS.later (show AccS mg E D H ρ (f a st) from h) x'
  | exc e st=>exact h
  | stuck=>exact h
end
theorem Res.sassoc {α β:Type} (r:Res α) (f:α->Store->Res β) (g:β->Store->SR):(r.bind f).sbind g=r.sbind fun a st=>(f a st).sbind g:=by cases r <;> rfl
theorem AccS.assoc {α β:Type} {mg:Str->Option Value} {E:XK} {D:Ends} {H:Hp} {ρ:Tk} {r:Res α} {f:α->Store->Res β} {g:β->Store->SR} (h:AccS mg E D H ρ ((r.bind f).sbind g)):AccS mg E D H ρ (r.sbind fun a st=>(f a st).sbind g):=by
  rw [<- Res.sassoc]; exact h
structure SimS (X:Cx) (E:XK) (s:Stmt) (m:MS):Prop where
  run:∀ (Γ:Gam) (σ:St) (H:Hp) (ρ:Tk) (st:Store) (D:Ends),Rel H ρ st->EnvR H ρ Γ σ->AccS X.mg E D H ρ (m Γ st)->WS X s D σ H
structure SimB (X:Cx) (E:XK) (ss:List Stmt) (m:MS):Prop where
  run:∀ (Γ:Gam) (σ:St) (H:Hp) (ρ:Tk) (st:Store) (D:Ends),Rel H ρ st->EnvR H ρ Γ σ->AccS X.mg E D H ρ (m Γ st)->WB X ss D σ H
section
variable {X:Cx} {E:XK} {pos:Pos} {e:Expr} {m:ME}
def mNext:MS:=fun Γ st=>.nx Γ st
def mSeqS (m1 m2:MS):MS:=fun Γ st=>match m1 Γ st with
  | .nx Γ1 st1=>m2 Γ1 st1
  | r=>r
theorem sb_nil:SimB X E [] mNext:=⟨fun Γ σ H ρ st D R G h=>WB.of pss_nil (h σ H ρ (Ext.refl _ _) R G)⟩
theorem sb_cons {s:Stmt} {rest:List Stmt} {m1 m2:MS} (h1:SimS X E s m1) (h2:SimB X E rest m2):SimB X E (s :: rest) (mSeqS m1 m2):=
  ⟨fun Γ σ H ρ st D R G h=>WB.of (pss_cons ps_w pss_w) (h1.run Γ σ H ρ st _ R G (by
    unfold mSeqS at h
    cases r:m1 Γ st with
    | nx Γ1 st1=>rw [r] at h; exact fun σ' H' ρ' x' R' G'=>h2.run Γ1 σ' H' ρ' st1 D R' G' (AccS.later h x')
    | bk Γ1 st1=>rw [r] at h; exact h
    | ct Γ1 st1=>rw [r] at h; exact h
    | rt p st1=>rw [r] at h; exact h
    | exc x st1=>rw [r] at h; exact h
    | stuck=>rw [r] at h; exact h))⟩
theorem sb_one {s:Stmt} {m1:MS} (h1:SimS X E s m1):SimB X E [s] m1:=⟨fun Γ σ H ρ st D R G h=>WB.of (pss_one ps_w) (h1.run Γ σ H ρ st D R G h)⟩
def mExpr (m:ME):MS:=fun Γ st=>(m Γ st).sbind fun _ st1=>.nx Γ st1
theorem ss_expr (he:SimE X E e m) (hs:swapsWith e none pos.line X.env=pure false:=by rfl):SimS X E (.Expr e pos) (mExpr m):=
  ⟨fun Γ σ H ρ st D R G h=>WS.of (ps_expr pe_w hs) (he.use R G h.bind fun p st1 H1 ρ1 v x1 R1 G1 r1 h1=>h1 σ H1 ρ1 (Ext.refl _ _) R1 G1)⟩
def mRet (m:ME):MS:=fun Γ st=>(m Γ st).sbind fun p st1=>.rt p st1
theorem ss_ret (he:SimE X E e m):SimS X E (.Return (some e) pos) (mRet m):=
  ⟨fun Γ σ H ρ st D R G h=>WS.of (ps_ret pe_w) (he.use R G h.bind fun p st1 H1 ρ1 v x1 R1 G1 r1 h1=>h1 v H1 ρ1 (Ext.refl _ _) R1 r1)⟩
def mRetN:MS:=fun _ st=>.rt .non st
def mSet (i:Nat) (m:ME):MS:=fun Γ st=>(m Γ st).sbind fun p st1=>.nx (Γ.set i (some p)) st1
theorem ss_set (i:Nat) {x:Str} {pos':Pos} (hN:X.N.Nodup) (he:SimE X E e m) (hi:X.N[i]?=some x:=by rfl) (hx:Loc X.env.scope x:=by first | exact Or.inl rfl | exact Or.inr rfl) (hs:swapsWith e (some (.Name x pos')) pos.line X.env=pure false:=by rfl) (hf:X.fn x=true\/X.env.scope.names.lookup x=some .local:=by first | exact .inl rfl | exact .inr rfl) :
    SimS X E (.Assign [.Name x pos'] e pos) (mSet i m):=
  ⟨fun Γ σ H ρ st D R G h=>WS.of (ps_set hN hi hx pe_w hs hf) (he.use R G h.bind fun p st1 H1 ρ1 v x1 R1 G1 r1 h1=>h1 _ H1 ρ1 (Ext.refl _ _) R1 (G1.set r1 i))⟩
section
variable {tg iter elt:Expr} {ifs:List Expr} {N N':List Str} {sc scE:Scope} {ga:GA} {mi:MI} {mt:MT} {me:ME}
theorem ss_compV (cap:List (Option Nat)) (N':List Str) (i:Nat) {x:Str} {px cpos:Pos} (hnd:X.N.Nodup) (hcalm:X.calm=true) (hi:SimI X E tg iter mi) (hg:∀ cl C s0 H0 ex,SimG (blkC X N' sc cl C s0 H0 ex) tg ga) (he:∀ cl C s0 H0 ex,SimE (blkC X N' sc cl C s0 H0 ex) E0 elt me) (ht:∀ cl C s0 H0 ex,SimTs (blkC X N' sc cl C s0 H0 ex) ifs mt)
    (hf:FreeT cap ga) (hix:X.N[i]?=some x:=by rfl) (hx:Loc X.env.scope x:=by first | exact Or.inl rfl | exact Or.inr rfl) (hsw:swapsWith (.ListComp elt [⟨tg,iter,ifs,0⟩] sc cpos) (some (.Name x px)) pos.line X.env=pure true:=by rfl)
    (hN:X.N=N:=by rfl) (hE:X.env.scope=scE:=by rfl) (hc:compOkC N N' sc scE cap=true:=by kernel_rfl) (hs:∀ x,foldedSetIterable iter X.env x=pure x:=by intro _; rfl) (hfn:X.fn x=true\/X.env.scope.names.lookup x=some .local:=by first | exact .inl rfl | exact .inr rfl) :
    SimS X E (.Assign [.Name x px] (.ListComp elt [⟨tg,iter,ifs,0⟩] sc cpos) pos) (mSet i (mVal (mCompN cap ga mi mt me))):=
  ⟨fun Γ σ H ρ st D R G h=>WS.of (ps_compT hnd hix hx hcalm pi_w pg_a pe_a pts_a hsw hN hE hc hs hfn) (comp_run hi hg he ht hf R G (AccS.bind (by unfold mSet mVal at h; exact AccS.assoc h)) fun ps st1 H1 ρ1 a vs eq x R1 hm hn ha r=>by
    obtain ⟨x2,R2,r2⟩:=out_val R x R1 hm hn ha r
    simp only [mSet,mVal,eq,Res.bind,Res.sbind] at h
    exact h _ _ _ x2 R2 ((G.ext x2).set r2 i))⟩
theorem ss_compT (cap:List (Option Nat)) (N':List Str) (i:Nat) {x:Str} {px cpos:Pos} (hnd:X.N.Nodup) (hcalm:X.calm=true) (hi:SimI X E tg iter mi) (hg:∀ cl C s0 H0 ex,SimG (blkC X N' sc cl C s0 H0 ex) tg ga) (he:∀ cl C s0 H0 ex,SimE (blkC X N' sc cl C s0 H0 ex) E0 elt me) (ht:∀ cl C s0 H0 ex,SimTs (blkC X N' sc cl C s0 H0 ex) ifs mt)
    (hf:FreeT cap ga) (hix:X.N[i]?=some x:=by rfl) (hx:Loc X.env.scope x:=by first | exact Or.inl rfl | exact Or.inr rfl) (hsw:swapsWith (.ListComp elt [⟨tg,iter,ifs,0⟩] sc cpos) (some (.Name x px)) pos.line X.env=pure true:=by rfl)
    (hN:X.N=N:=by rfl) (hE:X.env.scope=scE:=by rfl) (hc:compOkC N N' sc scE cap=true:=by kernel_rfl) (hs:∀ x,foldedSetIterable iter X.env x=pure x:=by intro _; rfl) (hfn:X.fn x=true\/X.env.scope.names.lookup x=some .local:=by first | exact .inl rfl | exact .inr rfl) :
    SimS X E (.Assign [.Name x px] (.ListComp elt [⟨tg,iter,ifs,0⟩] sc cpos) pos) (mSet i (mTrk (mCompN cap ga mi mt me))):=
  ⟨fun Γ σ H ρ st D R G h=>WS.of (ps_compT hnd hix hx hcalm pi_w pg_a pe_a pts_a hsw hN hE hc hs hfn) (comp_run hi hg he ht hf R G (AccS.bind (by unfold mSet mTrk at h; exact AccS.assoc h)) fun ps st1 H1 ρ1 a vs eq x R1 hm hn ha r=>by
    obtain ⟨x2,R2,r2⟩:=out_trk R x R1 hm hn ha r
    simp only [mSet,mTrk,eq,Res.bind,Res.sbind] at h
    exact h _ _ _ x2 R2 ((G.ext x2).set r2 i))⟩
end
def mAsg (ga:GA) (m:ME):MS:=fun Γ st=>(m Γ st).sbind fun p st1=>match ga p Γ with
  | some Γ1=>.nx Γ1 st1
  | none=>.stuck
def setIx (st:Store) (o i p:PV):Option Store:=match o,i with
  | .ref k,.int j=>match st[k]? with
    | some (.lst xs)=>(ixN xs.length j).map fun n=>st.set k (.lst (xs.set n p))
    | none=>none
  | _,_=>none
def mSetIx (mo mi m:ME):MS:=fun Γ st=>(m Γ st).sbind fun p st1=>(mo Γ st1).sbind fun o st2=>(mi Γ st2).sbind fun i st3=>match setIx st3 o i p with
  | some st4=>.nx Γ st4
  | none=>.stuck
theorem set_run {H:Hp} {ρ:Tk} {st st':Store} {o i p:PV} {x y z:V} (R:Rel H ρ st) (ro:Rep H ρ o x) (ri:Rep H ρ i y) (rp:Rep H ρ p z) (e:setIx st o i p=some st') :
    ∃ a vs k j,x=.ref a/\y=.int k/\H a=some (.lst vs)/\ixN vs.length k=some j/\Ext H ρ (upd H a (.lst (vs.set j z))) ρ/\Rel (upd H a (.lst (vs.set j z))) ρ st':=by
  unfold setIx at e
  split at e
  · rename_i k j
    split at e
    · rename_i xs hs
      cases ej:ixN xs.length j with
      | none=>rw [ej] at e; cases e
      | some n=>
        rw [ej] at e
        have e:st.set k (.lst (xs.set n p))=st':=Option.some.inj e
        subst e
        obtain ⟨a,ea,rfl⟩:=ro
        cases ri
        obtain ⟨b,vs,f1,f2,f3⟩:=R.lst hs
        rw [ea] at f1; cases f1
        exact ⟨a,vs,j,n,rfl,rfl,f2,by rw [<- f3.length]; exact ej,Ext.put (List.mem_of_getElem? ea) f2,R.put ea f2 (f3.set rp n)⟩
    · cases e
  · cases e
theorem ss_sub {o i:Expr} {mo mi:ME} {tpos:Pos} (he:SimE X E e m) (ho:SimE X E o mo) (hi:SimE X E i mi)
    (ha:∀ v,assign (.Subscript o i tpos) X.env v=(do
      let ov <- holding [v] (eval o X.env)
      let iv <- holding [v,ov] (eval i X.env)
      standAt tpos
      holding [v,ov,iv] (setItem ov iv v)
      release [v,ov,iv] []):=by intro _; rfl)
    (hs:swapsWithSole [.Subscript o i tpos] e pos.line X.env=pure false:=by rfl) (hw:swappedStores [.Subscript o i tpos] e X.env=pure none:=by rfl) (h1:(assignEach [.Subscript o i tpos] X.env).map (·.2)=[assign (.Subscript o i tpos) X.env]:=by rfl) :
    SimS X E (.Assign [.Subscript o i tpos] e pos) (mSetIx mo mi m):=
  ⟨fun Γ σ H ρ st D R G h=>WS.of (ps_asg pe_w (pg_sub pe_w pe_w set_list ha) hs hw h1) (he.use R G h.bind fun p st1 H1 ρ1 z x1 R1 G1 r1 h1=>ho.use R1 G1 h1.bind fun ov st2 H2 ρ2 x x2 R2 G2 r2 h2=>hi.use R2 G2 h2.bind fun iv st3 H3 ρ3 y x3 R3 G3 r3 h3=>by
    cases es:setIx st3 ov iv p with
    | none=>rw [es] at h3; exact h3.elim
    | some st4=>
      rw [es] at h3
      obtain ⟨a,vs,k,j,rfl,rfl,f1,f2,x4,R4⟩:=set_run R3 (r2.ext x3) r3 (r1.ext (x2.trans x3)) es
      exact ⟨a,vs,k,j,rfl,rfl,f1,f2,h3 σ _ ρ3 x4 R4 (G3.ext x4)⟩)⟩
def mIfS (mt:MT) (ma mb:MS):MS:=fun Γ st=>(mt Γ st).sbind fun b st1=>if b=true then ma Γ st1 else mb Γ st1
theorem ss_if {c:Expr} {a b:List Stmt} {mt:MT} {ma mb:MS} (hc:SimT X E c mt) (ha:SimB X E a ma) (hb:SimB X E b mb):SimS X E (.If c a b pos) (mIfS mt ma mb):=
  ⟨fun Γ σ H ρ st D R G h=>WS.of (ps_if pt_w pss_w pss_w) (hc.use R G h.bind fun k st1 H1 ρ1 x1 R1 G1 h1=>by
    cases k with
    | true=>rw [if_pos rfl] at h1 ⊢; exact ha.run Γ σ H1 ρ1 st1 D R1 G1 h1
    | false=>rw [if_neg Bool.false_ne_true] at h1 ⊢; exact hb.run Γ σ H1 ρ1 st1 D R1 G1 h1)⟩
open Classical in
def forG (ga:GA) (body:MS) (w:Wt):List PV->Gam->Store->SR
  | [],Γ,st=>if wOk w st then .nx Γ st else .stuck
  | x :: xs,Γ,st=>if wOk w st then (match ga x Γ with
    | none=>.stuck
    | some Γ1=>match body Γ1 st with
      | .nx Γ2 st2=>forG ga body w xs Γ2 st2
      | .ct Γ2 st2=>forG ga body w xs Γ2 st2
      | .bk Γ2 st2=>.nx Γ2 st2
      | .rt v st2=>.rt v st2
      | .exc x st2=>.exc x st2
      | .stuck=>.stuck) else .stuck
def mFor (ga:GA) (mi:MI) (body:MS):MS:=fun Γ st=>(mi Γ st).sbind fun iw st1=>forG ga body iw.2 iw.1 Γ st1
theorem ss_for {tg iter:Expr} {bd:List Stmt} {ga:GA} {mi:MI} {body:MS} (hp:PassesOwn (model X.prog X.w) X.A X.env X.xe) (hc:X.calm=true) (hi:SimI X E tg iter mi) (hg:SimG X tg ga) (hb:SimB X E bd body)
    (hs:∀ x,foldedSetIterable iter X.env x=pure x:=by intro _; rfl):SimS X E (.For tg iter bd [] pos) (mFor ga mi body):=
  ⟨fun Γ σ H ρ st D R G h=>WS.of (ps_for hp hc pi_w pg_x pss_w hs) (hi.run Γ σ H ρ st _ _ R G h.bind fun iw st1 H1 ρ1 J eq x1 R1 G1 ok hl src h1=>by
    let W:Nat->Nat->St->Hp->Prop:=fun i m σ' H'=>m=iw.1.length - i/\i<=iw.1.length/\∃ Γ' ρ' st',Ext H1 ρ1 H' ρ'/\Rel H' ρ' st'/\EnvR H' ρ' Γ' σ'/\AccS X.mg E D H' ρ' (forG ga body iw.2 (iw.1.drop i) Γ' st')
    refine ⟨W,⟨_,rfl,Nat.zero_le _,Γ,ρ1,st1,Ext.refl _ _,R1,G1,by rw [List.drop_zero]; exact h1⟩,?_⟩
    rintro i m σ' H' ⟨hm,hi',Γ',ρ',st',x,R',G',hA⟩
    by_cases hlt:i < iw.1.length
    · right
      have hd:iw.1.drop i=iw.1[i] :: iw.1.drop (i + 1):=List.drop_eq_getElem_cons hlt
      rw [hd,forG] at hA
      by_cases hw:wOk iw.2 st'
      · rw [if_pos hw] at hA
        refine ⟨src.go H' ρ' st' x R' hw i hlt,fun σ2 H2=>W (i + 1) (iw.1.length - (i + 1)) σ2 H2,fun σ2 H2 z=>⟨_,by omega,z⟩,fun y H2 hy=>?_⟩
        obtain ⟨sm,ry⟩:=src.yld H' ρ' st' x R' hw i _ (List.getElem?_eq_getElem hlt) y H2 hy
        have x2:Ext H' ρ' H2 ρ':=Ext.same sm
        cases eg:ga iw.1[i] Γ' with
        | none=>rw [eg] at hA; exact hA.elim
        | some Γ1=>
          rw [eg] at hA
          refine hg.run Γ' Γ1 σ' H2 ρ' _ y _ (G'.ext x2) ry eg fun σ3 G3=>?_
          have hA2:=AccS.later hA x2
          simp only at hA2
          refine hb.run Γ1 σ3 H2 ρ' st' _ (R'.same sm) G3 ?_
          have again:∀ {Γ2:Gam} {st2:Store},AccS X.mg E D H2 ρ' (forG ga body iw.2 (iw.1.drop (i + 1)) Γ2 st2)->∀ σ' H'' ρ'',Ext H2 ρ' H'' ρ''->Rel H'' ρ'' st2->EnvR H'' ρ'' Γ2 σ'->W (i + 1) (iw.1.length - (i + 1)) σ' H'':=fun {Γ2 st2} a σ4 H4 ρ4 x4 R4 G4=>
            ⟨rfl,hlt,Γ2,ρ4,st2,x.trans (x2.trans x4),R4,G4,AccS.later a x4⟩
          cases rb:body Γ1 st' with
          | nx Γ2 st2=>rw [rb] at hA2; exact again hA2
          | ct Γ2 st2=>rw [rb] at hA2; exact again hA2
          | bk Γ2 st2=>rw [rb] at hA2; exact hA2
          | rt v st2=>rw [rb] at hA2; exact hA2
          | exc y st2=>rw [rb] at hA2; exact hA2
          | stuck=>rw [rb] at hA2; exact hA2.elim
      · rw [if_neg hw] at hA; exact hA.elim
    · left
      have ei:i=iw.1.length:=by omega
      subst ei
      rw [List.drop_length,forG] at hA
      by_cases hw:wOk iw.2 st'
      · rw [if_pos hw] at hA
        exact ⟨src.stop H' ρ' st' x R' hw,hA σ' H' ρ' (Ext.refl _ _) R' G'⟩
      · rw [if_neg hw] at hA; exact hA.elim)⟩
def whileG (mt:MT) (body:MS):Nat->Gam->Store->SR
  | 0,_,_=>.stuck
  | n + 1, Γ, st => (mt Γ st).sbind fun b st1 => if b = true then (match body Γ st1 with
      | .nx Γ2 st2=>whileG mt body n Γ2 st2
      | .ct Γ2 st2=>whileG mt body n Γ2 st2
      | .bk Γ2 st2=>.nx Γ2 st2
      | .rt v st2=>.rt v st2
      | .exc x st2=>.exc x st2
      | .stuck=>.stuck) else .nx Γ st1
theorem ss_while (n:Nat) {c:Expr} {bd:List Stmt} {mt:MT} {body:MS} (hp:PassesOwn (model X.prog X.w) X.A X.env X.xe) (hc:SimT X E c mt) (hb:SimB X E bd body):SimS X E (.While c bd [] pos) (whileG mt body n):=
  ⟨fun Γ σ H ρ st D R G h=>WS.of (ps_while hp pt_w pss_w) (by
    let W:Nat->St->Hp->Prop:=fun m σ' H'=>∃ Γ' ρ' st',Rel H' ρ' st'/\EnvR H' ρ' Γ' σ'/\AccS X.mg E D H' ρ' (whileG mt body m Γ' st')
    refine ⟨W,⟨n,Γ,ρ,st,R,G,h⟩,?_⟩
    rintro m σ' H' ⟨Γ',ρ',st',R',G',hA⟩
    cases m with
    | zero=>exact hA.elim
    | succ m=>
      rw [whileG] at hA
      refine hc.use R' G' hA.bind fun b st1 H1 ρ1 x1 R1 G1 h1=>?_
      cases b with
      | false=>rw [if_neg Bool.false_ne_true] at h1 ⊢; exact h1 σ' H1 ρ1 (Ext.refl _ _) R1 G1
      | true=>
        rw [if_pos rfl] at h1 ⊢
        refine ⟨fun σ2 H2=>W m σ2 H2,fun σ2 H2 z=>⟨m,Nat.lt_succ_self _,z⟩,hb.run Γ' σ' H1 ρ1 st1 _ R1 G1 ?_⟩
        have again:∀ {Γ2:Gam} {st2:Store},AccS X.mg E D H1 ρ1 (whileG mt body m Γ2 st2)->∀ σ' H'' ρ'',Ext H1 ρ1 H'' ρ''->Rel H'' ρ'' st2->EnvR H'' ρ'' Γ2 σ'->W m σ' H'':=fun {Γ2 st2} a σ4 H4 ρ4 x4 R4 G4=>⟨Γ2,ρ4,st2,R4,G4,AccS.later a x4⟩
        cases rb:body Γ' st1 with
        | nx Γ2 st2=>rw [rb] at h1; exact again h1
        | ct Γ2 st2=>rw [rb] at h1; exact again h1
        | bk Γ2 st2=>rw [rb] at h1; exact h1
        | rt v st2=>rw [rb] at h1; exact h1
        | exc y st2=>rw [rb] at h1; exact h1
        | stuck=>rw [rb] at h1; exact h1.elim)⟩
def mRaise (x:Str) (m:ME):MS:=fun Γ st=>(m Γ st).sbind fun _ st1=>.exc ⟨x,none⟩ st1
theorem ss_raise {x:Str} {C:Addr} {np cpos:Pos} (hcalm:X.calm=true) (RO:RaiseD X E) (hg:Gl X x) (hm:X.mg x=some (.ref C)) (q:PySem.W.excIn X.K C bmVE "ValueError.__new__" = true) (he:SimE X E e m)
    (hdb:(x == ("__debug__" : Str))=false:=by decide) (hst:starEach [e] X.env=[(false,eval e X.env)]:=by rfl):SimS X E (.Raise (some (.Call (.Name x np) [e] [] cpos)) none pos) (mRaise x m):=
  ⟨fun Γ σ H ρ st D R G h=>WS.of (ps_raiseD hcalm RO hg hm q (pa_cons pe_w pa_nil (by rw [hst]; rfl)) hdb hst) (he.use R G h.bind fun p st1 H1 ρ1 v x1 R1 G1 r1 h1=>⟨Nat.le_trans (show 1<=lim by decide) lim_le,h1 C none H1 ρ1 hm (Ext.refl _ _) R1 rfl⟩)⟩
end
end Sm
namespace Sm
open PySem PySem.Spec L2
def WM (X:Cx) (id:String):V->List V->Hp->VK->Prop:=fun x xs H Q=>∀ (pins:List (Addr × Obj)) (s:Shared) (σ:St) (v:Value) (us:List Value),Inv X pins σ H s->RelV x v->Vals xs us->wpAny (model X.prog X.w) X.A (call (.builtin id) (v :: us)) (EP X pins σ Q) X.xe s
theorem mt_w {X:Cx} {id:String}:MtR X id (WM X id):=fun pins s σ _ _ _ v us _ I r rs h=>h pins s σ v us I r rs
theorem WM.of {X:Cx} {id:String} {r:V->List V->Hp->VK->Prop} {x:V} {xs:List V} {H:Hp} {Q:VK} (h:MtR X id r) (q:r x xs H Q):WM X id x xs H Q:=fun pins s σ v us I r1 r2=>h pins s σ H x xs v us Q I r1 r2 q
abbrev MF:=Store->PV->List PV->Res PV
structure MtS (X:Cx) (E:XK) (id:String) (o:MF):Prop where
  run:∀ (H:Hp) (ρ:Tk) (st:Store) (p:PV) (ps:List PV) (x:V) (xs:List V) (Q:VK),Rel H ρ st->Rep H ρ p x->RepL H ρ ps xs->Acc X.mg E H ρ (QV Q) (o st p ps)->WM X id x xs H Q
section
variable {X:Cx} {E:XK} {o e:Expr} {es:List Expr} {mo:ME} {mr:Gam->Store->Res (List PV)} {name:Str} {apos cpos:Pos} {T id:String} {f:MF}
def mBM (f:MF) (mo:ME) (mr:Gam->Store->Res (List PV)):ME:=fun Γ st=>(mo Γ st).bind fun p st1=>match listOf st1 p with
  | some _=>(mr Γ st1).bind fun ps st2=>f st2 p ps
  | none=>.stuck
theorem se_bm (pa:PlainAttrs "list") (slot:Slot "list" name id) (hty:typeOf (.builtin id)=pure (.type "method_descriptor")) (hm:MtS X E id f) (ho:SimE X E o mo) (ha:SimA X E (e :: es) mr)
    (hbase:attributeBase o name X.env (eval o X.env)=eval o X.env:=by rfl)
    (hfew:((backTo cpos (starEach (e :: es) X.env)).all (fun x=>!x.1) && (backToKw cpos (keywordEach [] X.env)).all (fun x=>x.1.isSome)
      && decide ((e :: es).length + ([]:List Keyword).length + (if ([]:List Keyword).isEmpty then 0 else 1) < 30))=true:=by rfl)
    (hline:(apos.endLine == cpos.line)=true:=by rfl) (hs:starEach (e :: es) X.env=(false,eval e X.env) :: starEach es X.env:=by rfl) (hplain:(backTo cpos (starEach es X.env)).any (·.1)=false:=by rfl) :
    SimE X E (.Call (.Attribute o name apos) (e :: es) [] cpos) (mBM f mo mr):=
  ⟨fun Γ σ H ρ st Q R G h=>WE.of (pe_bm pa slot hty mt_w pe_w pa_w hbase hfew hline hs hplain) (ho.use R G h.bind fun p st1 H1 ρ1 v x1 R1 G1 r1 h1=>by
    split at h1
    · rename_i ys el
      obtain ⟨a,vs,rfl,hr,_⟩:=list_at R1 r1 el
      exact ⟨.inl ⟨rfl,vs,.inl hr⟩,ha.use R1 G1 h1.bind fun ps st2 H2 ρ2 us x2 R2 G2 r2 h2=>hm.run H2 ρ2 st2 p ps _ us Q R2 (r1.ext x2) r2 h2⟩
    · exact h1.elim)⟩
def chg (st:Store) (p:PV) (g:List PV->Option (PV × List PV)):Res PV:=match p with
  | .ref i=>match st[i]? with
    | some (.lst xs)=>match g xs with
      | some (r,ys)=>.ok r (st.set i (.lst ys))
      | none=>.stuck
    | none=>.stuck
  | _=>.stuck
theorem chg_run {mg:Str->Option Value} {H:Hp} {ρ:Tk} {st:Store} {p:PV} {x:V} {g:List PV->Option (PV × List PV)} {Q:VK} (R:Rel H ρ st) (rp:Rep H ρ p x) (h:Acc mg E H ρ (QV Q) (chg st p g)) :
    ∃ a xs vs r ys,x=.ref a/\H a=some (.lst vs)/\RepL H ρ xs vs/\g xs=some (r,ys)/\∀ us v,RepL H ρ ys us->Rep H ρ r v->Q v (upd H a (.lst us)):=by
  unfold chg at h
  split at h
  · rename_i i
    split at h
    · rename_i xs hs
      split at h
      · rename_i r ys hg
        obtain ⟨a,ea,rfl⟩:=rp
        obtain ⟨b,vs,f1,f2,f3⟩:=R.lst hs
        rw [ea] at f1; cases f1
        refine ⟨a,xs,vs,r,ys,rfl,f2,f3,hg,fun us v ru rv=>?_⟩
        have x:=Ext.put (o':=.lst us) (List.mem_of_getElem? ea) f2
        exact h _ ρ x (R.put ea f2 ru) v (rv.ext x)
      · exact h.elim
    · exact h.elim
  · exact h.elim
def mtAppend:MF:=fun st p ps=>match ps with
  | [y]=>chg st p fun xs=>if xs.length < lim then some (.non,xs ++ [y]) else none
  | _=>.stuck
theorem ms_append:MtS X E "list.append" mtAppend:=⟨fun H ρ st p ps x xs Q R rp rs h=>by
  unfold mtAppend at h
  split at h
  · obtain ⟨v,rfl,r⟩:=repL_one rs
    obtain ⟨a,ys,vs,r0,zs,rfl,f1,f2,f3,k⟩:=chg_run R rp h
    split at f3
    · rename_i hl
      cases f3
      exact WM.of mt_append ⟨a,vs,v,rfl,rfl,f1,by rw [<- f2.length]; exact Nat.lt_of_lt_of_le hl lim_le,k _ _ (f2.append (RepL.cons r RepL.nil)) rfl⟩
    · cases f3
  · exact h.elim⟩
def mtExtend:MF:=fun st p ps=>match ps with
  | [q]=>match lstOf st q with
    | some ys=>chg st p fun xs=>if xs.length + ys.length<=lim then some (.non,xs ++ ys) else none
    | none=>.stuck
  | _=>.stuck
theorem ms_extend:MtS X E "list.extend" mtExtend:=⟨fun H ρ st p ps x xs Q R rp rs h=>by
  unfold mtExtend at h
  split at h
  · obtain ⟨v,rfl,r⟩:=repL_one rs
    split at h
    · rename_i ws ew
      obtain ⟨b,us,rfl,hb,rb⟩:=lst_at R r ew
      obtain ⟨a,ys,vs,r0,zs,rfl,f1,f2,f3,k⟩:=chg_run R rp h
      split at f3
      · rename_i hl
        cases f3
        exact WM.of mt_extend ⟨a,b,vs,us,rfl,rfl,f1,hb,by rw [<- f2.length,<- rb.length]; exact le_lim hl,k _ _ (f2.append rb) rfl⟩
      · cases f3
    · exact h.elim
  · exact h.elim⟩
theorem se_append (ho:SimE X E o mo) (ha:SimA X E [e] mr) (hbase:attributeBase o "append" X.env (eval o X.env)=eval o X.env:=by rfl)
    (hfew:((backTo cpos (starEach [e] X.env)).all (fun x=>!x.1) && (backToKw cpos (keywordEach [] X.env)).all (fun x=>x.1.isSome) && decide ([e].length + ([]:List Keyword).length + (if ([]:List Keyword).isEmpty then 0 else 1) < 30))=true:=by rfl)
    (hline:(apos.endLine == cpos.line)=true:=by rfl) (hs:starEach [e] X.env=(false,eval e X.env) :: starEach [] X.env:=by rfl):SimE X E (.Call (.Attribute o "append" apos) [e] [] cpos) (mBM mtAppend mo mr):=
  se_bm PySem.F.plainAttrs_list PySem.F.slot_list_append PySem.F.type_list_append ms_append ho ha hbase hfew hline hs
theorem se_extend (ho:SimE X E o mo) (ha:SimA X E [e] mr) (hbase:attributeBase o "extend" X.env (eval o X.env)=eval o X.env:=by rfl)
    (hfew:((backTo cpos (starEach [e] X.env)).all (fun x=>!x.1) && (backToKw cpos (keywordEach [] X.env)).all (fun x=>x.1.isSome) && decide ([e].length + ([]:List Keyword).length + (if ([]:List Keyword).isEmpty then 0 else 1) < 30))=true:=by rfl)
    (hline:(apos.endLine == cpos.line)=true:=by rfl) (hs:starEach [e] X.env=(false,eval e X.env) :: starEach [] X.env:=by rfl):SimE X E (.Call (.Attribute o "extend" apos) [e] [] cpos) (mBM mtExtend mo mr):=
  se_bm PySem.F.plainAttrs_list PySem.F.slot_list_extend PySem.F.type_list_extend ms_extend ho ha hbase hfew hline hs
end
end Sm
namespace Sm
open PySem PySem.Spec L2
mutual
def fz (n:Nat) (st:Store):Nat->PV->Option PV
  | 0,_=>none
  | _ + 1,.non=>some .non
  | _ + 1,.bl b=>some (.bl b)
  | _ + 1,.int i=>some (.int i)
  | _ + 1,.str x=>some (.str x)
  | k + 1,.tup xs=>(fzL n st k xs).map .tup
  | k + 1,.lst xs=>(fzL n st k xs).map .lst
  | k + 1,.fro xs=>(fzL n st k xs).map .fro
  | _ + 1,.dic=>some .dic
  | k + 1,.ref i=>if i < n then some (.ref i) else match st[i]? with
    | some (.lst xs)=>(fzL n st k xs).map .lst
    | none=>none
def fzL (n:Nat) (st:Store):Nat->List PV->Option (List PV)
  | _,[]=>some []
  | k,x :: xs=>(fz n st k x).bind fun y=>(fzL n st k xs).map (y :: ·)
end
theorem fz_good {n:Nat} {st:Store}:∀ {m k:Nat} {p:PV},good m p=true->m < k->fz n st k p=some p:=by
  intro m
  induction m with
  | zero=>
    intro k p g hk
    obtain ⟨k,rfl⟩:∃ j,k=j + 1:=⟨k - 1,by omega⟩
    cases p with
    | tup _=>cases g
    | lst _=>cases g
    | fro _=>cases g
    | ref _=>cases g
    | dic=>cases g
    | _=>rw [fz]
  | succ m ih=>
    intro k p g hk
    obtain ⟨k,rfl⟩:∃ j,k=j + 1:=⟨k - 1,by omega⟩
    have hL:∀ xs:List PV,xs.all (good m)=true->fzL n st k xs=some xs:=by
      intro xs
      induction xs with
      | nil=>intro _; rw [fzL]
      | cons x xs ihx=>
        intro g
        rw [List.all_cons,Bool.and_eq_true] at g
        rw [fzL,ih g.1 (by omega),ihx g.2]; rfl
    cases p with
    | tup xs=>rw [fz,hL xs g]; rfl
    | lst xs=>rw [fz,hL xs g]; rfl
    | fro xs=>rw [fz,hL xs g]; rfl
    | ref _=>cases g
    | dic=>cases g
    | _=>rw [fz]
section
variable {H:Hp} {ρ:Tk} {st:Store} {tr0 rest hs:List Addr}
theorem fz_rep (R:Rel H ρ st) (ht:ρ.tr=tr0 ++ rest) (hh:∀ a,a ∈ hs->a ∈ ρ.hid):∀ (k:Nat) {p p':PV} {v:V},Rep H ρ p v->fz tr0.length st k p=some p'->Rep H ⟨tr0,hs⟩ p' v:=by
  have out:∀ a,a ∉ ρ->a ∉ (⟨tr0,hs⟩:Tk):=fun a n z=>by
    rcases z with z | z
    · exact n (.inl (by rw [ht]; exact List.mem_append_left _ z))
    · exact n (.inr (hh a z))
  intro k
  induction k with
  | zero=>intro p p' v r e; rw [fz] at e; cases e
  | succ k ih=>
    have hL:∀ {ps ps':List PV} {vs:List V},RepL H ρ ps vs->fzL tr0.length st k ps=some ps'->RepL H ⟨tr0,hs⟩ ps' vs:=by
      intro ps
      induction ps with
      | nil=>intro ps' vs r e; rw [fzL] at e; cases e; exact r
      | cons x xs ihx=>
        intro ps' vs r e
        obtain ⟨v,t,rfl,r1,r2⟩:=r
        rw [fzL] at e
        cases e1:fz tr0.length st k x with
        | none=>rw [e1] at e; cases e
        | some y=>
          rw [e1] at e
          have e:(fzL tr0.length st k xs).map (y :: ·)=some ps':=e
          cases e2:fzL tr0.length st k xs with
          | none=>rw [e2] at e; cases e
          | some ys=>
            rw [e2] at e
            cases e
            exact ⟨v,t,rfl,ih r1 e1,ihx r2 e2⟩
    intro p p' v r e
    cases p with
    | non=>rw [fz] at e; cases e; exact r
    | bl b=>rw [fz] at e; cases e; exact r
    | int i=>rw [fz] at e; cases e; exact r
    | str x=>rw [fz] at e; cases e; exact r
    | tup xs=>
      rw [fz] at e
      obtain ⟨a,vs,e1,ha,na,ra⟩:=r
      cases e2:fzL tr0.length st k xs with
      | none=>rw [e2] at e; cases e
      | some ys=>rw [e2] at e; cases e; exact ⟨a,vs,e1,ha,out a na,hL ra e2⟩
    | lst xs=>
      rw [fz] at e
      obtain ⟨a,vs,e1,ha,na,ra⟩:=r
      cases e2:fzL tr0.length st k xs with
      | none=>rw [e2] at e; cases e
      | some ys=>rw [e2] at e; cases e; exact ⟨a,vs,e1,ha,out a na,hL ra e2⟩
    | fro xs=>
      rw [fz] at e
      obtain ⟨a,vs,e1,ha,na,ra⟩:=r
      cases e2:fzL tr0.length st k xs with
      | none=>rw [e2] at e; cases e
      | some ys=>rw [e2] at e; cases e; exact ⟨a,vs,e1,ha,out a na,hL ra e2⟩
    | dic=>
      rw [fz] at e
      cases e
      obtain ⟨a,e1,ha,na⟩:=r
      exact ⟨a,e1,ha,out a na⟩
    | ref i=>
      rw [fz] at e
      obtain ⟨a,ea,rfl⟩:=r
      by_cases hi:i < tr0.length
      · rw [if_pos hi] at e
        cases e
        rw [ht,List.getElem?_append_left hi] at ea
        exact ⟨a,ea,rfl⟩
      · rw [if_neg hi] at e
        split at e
        · rename_i xs hs'
          obtain ⟨b,vs,f1,f2,f3⟩:=R.lst hs'
          rw [ea] at f1; cases f1
          cases e2:fzL tr0.length st k xs with
          | none=>rw [e2] at e; cases e
          | some ys=>
            rw [e2] at e; cases e
            refine ⟨a,vs,rfl,f2,fun z=>?_,hL f3 e2⟩
            rcases z with z | z
            · have z:a ∈ tr0:=z
              obtain ⟨j,hj,ej⟩:=List.getElem_of_mem z
              have g1:ρ.tr[j]?=some a:=by rw [ht,List.getElem?_append_left hj,List.getElem?_eq_getElem hj,ej]
              have l1:=List.getElem?_eq_some_iff.mp g1
              have l2:=List.getElem?_eq_some_iff.mp ea
              have:=nodup_inj R.nd l1.1 l2.1 (l1.2.trans l2.2.symm)
              omega
            · exact R.ap a (hh a z) (List.mem_of_getElem? ea)
        · cases e
mutual
def bel (n:Nat):PV->Prop
  | .tup xs=>belL n xs
  | .lst xs=>belL n xs
  | .fro xs=>belL n xs
  | .ref i=>i < n
  | _=>True
def belL (n:Nat):List PV->Prop
  | []=>True
  | x :: xs=>bel n x/\belL n xs
end
mutual
theorem Rep.bel:∀ {p:PV} {v:V},Rep H ρ p v->bel ρ.tr.length p
  | .non,_,_=>by simp [Sm.bel]
  | .bl _,_,_=>by simp [Sm.bel]
  | .int _,_,_=>by simp [Sm.bel]
  | .str _,_,_=>by simp [Sm.bel]
  | .tup ps,_,⟨_,_,_,_,_,r⟩=>by rw [Sm.bel]; exact RepL.bel r
  | .lst ps,_,⟨_,_,_,_,_,r⟩=>by rw [Sm.bel]; exact RepL.bel r
  | .fro ps,_,⟨_,_,_,_,_,r⟩=>by rw [Sm.bel]; exact RepL.bel r
  | .ref i,_,⟨_,e,_⟩=>by rw [Sm.bel]; exact (List.getElem?_eq_some_iff.mp e).1
  | .dic,_,_=>by simp [Sm.bel]
theorem RepL.bel:∀ {ps:List PV} {vs:List V},RepL H ρ ps vs->belL ρ.tr.length ps
  | [],_,_=>by simp [belL]
  | p :: ps,_,⟨_,_,_,r1,r2⟩=>by rw [belL]; exact ⟨Rep.bel r1,RepL.bel r2⟩
end
mutual
theorem Rep.less (ht:ρ.tr=tr0 ++ rest) (hh:∀ a,a ∈ hs->a ∈ ρ.hid):∀ {p:PV} {v:V},Sm.bel tr0.length p->Rep H ρ p v->Rep H ⟨tr0,hs⟩ p v
  | .non,_,_,r=>r
  | .bl _,_,_,r=>r
  | .int _,_,_,r=>r
  | .str _,_,_,r=>r
  | .tup ps,_,b,⟨a,vs,e,ha,na,r⟩=>⟨a,vs,e,ha,fun z=>na (z.imp (fun z=>by rw [ht]; exact List.mem_append_left _ z) (hh a)),RepL.less ht hh (by rw [Sm.bel] at b; exact b) r⟩
  | .lst ps,_,b,⟨a,vs,e,ha,na,r⟩=>⟨a,vs,e,ha,fun z=>na (z.imp (fun z=>by rw [ht]; exact List.mem_append_left _ z) (hh a)),RepL.less ht hh (by rw [Sm.bel] at b; exact b) r⟩
  | .fro ps,_,b,⟨a,vs,e,ha,na,r⟩=>⟨a,vs,e,ha,fun z=>na (z.imp (fun z=>by rw [ht]; exact List.mem_append_left _ z) (hh a)),RepL.less ht hh (by rw [Sm.bel] at b; exact b) r⟩
  | .ref i,_,b,⟨a,e,e2⟩=>⟨a,by rw [Sm.bel] at b; rw [ht,List.getElem?_append_left b] at e; exact e,e2⟩
  | .dic,_,_,⟨a,e,ha,na⟩=>⟨a,e,ha,fun z=>na (z.imp (fun z=>by rw [ht]; exact List.mem_append_left _ z) (hh a))⟩
theorem RepL.less (ht:ρ.tr=tr0 ++ rest) (hh:∀ a,a ∈ hs->a ∈ ρ.hid):∀ {ps:List PV} {vs:List V},belL tr0.length ps->RepL H ρ ps vs->RepL H ⟨tr0,hs⟩ ps vs
  | [],_,_,r=>r
  | p :: ps,_,b,⟨v,t,e,r1,r2⟩=>by
    rw [belL] at b
    exact ⟨v,t,e,Rep.less ht hh b.1 r1,RepL.less ht hh b.2 r2⟩
end
end
theorem rel_back {H H':Hp} {ρ ρ':Tk} {st st':Store} (R:Rel H ρ st) (x:Ext H ρ H' ρ') (R':Rel H' ρ' st') (hp:st <+: st'):Ext H ρ H' ρ/\Rel H' ρ st:=by
  obtain ⟨rest,ht⟩:=x.pre
  obtain ⟨more,hm⟩:=hp
  refine ⟨⟨List.prefix_refl _,fun _ h=>h,fun _ h=>.inl h,x.keep,fun _ h=>.inl h,x.old⟩,R.len,R.nd,fun a ha=>let ⟨o,e⟩:=R.hd a ha; x.old a o e,R.ap,fun i a c h1 h2=>?_⟩
  have hi:i < st.length:=(List.getElem?_eq_some_iff.mp h2).1
  have q:=R'.cell i a c (by rw [<- ht,List.getElem?_append_left (List.getElem?_eq_some_iff.mp h1).1]; exact h1) (by rw [<- hm,List.getElem?_append_left hi]; exact h2)
  have q0:=R.cell i a c h1 h2
  cases c with
  | lst ps=>
    obtain ⟨vs,e1,e2⟩:=q
    obtain ⟨us,_,f2⟩:=q0
    exact ⟨vs,e1,RepL.less (ρ:=ρ') (tr0:=ρ.tr) (hs:=ρ.hid) ht.symm x.hidM f2.bel e2⟩
abbrev FN:=List PV->Store->Res PV
open Classical in
def fin (st:Store) (v:PV) (st':Store):Res PV:=if st <+: st' then okO st (fz st.length st' 16 v) else .ok v st'
open Classical in
def finX (st:Store) (x:Exc) (st':Store):Res PV:=if st <+: st' then (match x.fs with
  | none=>.exc x st
  | some (n,p)=>match fz st.length st' 16 p with
    | some q=>.exc ⟨x.cls,some (n,q)⟩ st
    | none=>.stuck) else .exc x st'
def callF (body:MS) (nl:Nat):FN:=fun ps st=>match body (ps.map some ++ List.replicate (nl - ps.length) none) st with
  | .rt v st'=>fin st v st'
  | .nx _ st'=>fin st .non st'
  | .exc x st'=>finX st x st'
  | _=>.stuck
theorem fin_acc {mg:Str->Option Value} {E:XK} {H:Hp} {ρ:Tk} {st st':Store} {Q:VK} {p:PV} (R:Rel H ρ st) (h:Acc mg E H ρ (QV Q) (fin st p st')):∀ v H' ρ',Ext H ρ H' ρ'->Rel H' ρ' st'->Rep H' ρ' p v->Q v H':=fun v H' ρ' x R' r=>by
  unfold fin at h
  by_cases hp:st <+: st'
  · rw [if_pos hp] at h
    cases e:fz st.length st' 16 p with
    | none=>rw [e] at h; exact h.elim
    | some q=>
      rw [e] at h
      obtain ⟨x2,R2⟩:=rel_back R x R' hp
      obtain ⟨rest,ht⟩:=x.pre
      rw [<- R.len] at e
      exact h H' ρ x2 R2 v (fz_rep (tr0:=ρ.tr) (hs:=ρ.hid) R' ht.symm x.hidM 16 r e)
  · rw [if_neg hp] at h
    exact h H' ρ' x R' v r
def spF (mg:Str->Option Value) (n:Nat) (F:FN):Sp:=fun vs H Q E=>vs.length=n/\∃ ρ st ps,Rel H ρ st/\RepL H ρ ps vs/\Acc mg E H ρ (QV Q) (F ps st)
theorem start_env {H:Hp} {ρ:Tk} {N:List Str} {ps:List PV} {vs:List V} (r:RepL H ρ ps vs):EnvR H ρ (ps.map some ++ List.replicate (N.length - ps.length) none) (L2.start N vs):=by
  have hl:=r.length
  unfold L2.start
  refine ⟨by simp [hl],fun i p e=>?_⟩
  by_cases hi:i < ps.length
  · rw [List.getElem?_append_left (by simpa using hi),List.getElem?_map] at e
    rw [List.getElem?_append_left (by simp; omega),List.getElem?_map]
    cases q:ps[i]? with
    | none=>rw [q] at e; cases e
    | some p'=>
      rw [q] at e
      cases e
      obtain ⟨v,e1,e2⟩:=r.get q
      exact ⟨v,by rw [e1]; rfl,e2⟩
  · rw [List.getElem?_append_right (by simpa using hi),List.getElem?_replicate] at e
    split at e <;> cases e
section
variable {P:Program} {w:World} {K:PySem.W.Frag} {mg:Str->Option Value} {base:Heap}
theorem fun_ok {x qual:Str} {st:Stmt} {f:Addr} {fd:FuncData} {N ps:List Str} {k:Nat} {m:MS} (F:Fun K x qual st f fd) (S:FnScope N ps (defScope st))
    (hb:∀ (cdv:Value) (A:Around) (outer:List PySem.Env) (s:Shared) (H:Hp) (E:XK),Room k (A.deeper (PyProof.Rows.envOfC qual (defScope st) s.heap.objs.size f cdv))->SimB (cxD P w K mg base N qual (defScope st) f cdv A outer s H E) E (defBody st) m) :
    FnOk P w K mg base (CXD P w) (k + 1) f fd ps (spF mg ps.length (callF m N.length)):=by
  refine Fun.okD F S (fun vs H Q E h=>h.1) fun cdv A outer s H vs Q E hr hsp=>⟨_,pss_w,?_⟩
  obtain ⟨hl,ρ,st0,pvs,R,rl,hA⟩:=hsp
  refine (hb cdv A outer s H E hr).run _ (L2.start N vs) H ρ st0 _ R (start_env rl) ?_
  unfold callF at hA
  cases rr:m (pvs.map some ++ List.replicate (N.length - pvs.length) none) st0 with
  | rt v st1=>rw [rr] at hA; exact fin_acc R hA
  | nx Γ st1=>rw [rr] at hA; exact fun σ' H' ρ' x' R' G'=>fin_acc R hA .non H' ρ' x' R' rfl
  | bk Γ st1=>rw [rr] at hA; exact hA.elim
  | ct Γ st1=>rw [rr] at hA; exact hA.elim
  | stuck=>rw [rr] at hA; exact hA.elim
  | exc y st1=>
    rw [rr] at hA
    have hA:Acc mg E H ρ (QV Q) (finX st0 y st1):=hA
    intro C dv H' ρ' hm x' R' hf
    unfold finX at hA
    by_cases hp:st0 <+: st1
    · rw [if_pos hp] at hA
      obtain ⟨x2,R2⟩:=rel_back R x' R' hp
      obtain ⟨cls,fs⟩:=y
      cases fs with
      | none=>exact hA C dv H' ρ hm x2 R2 hf
      | some np=>
        obtain ⟨nm,p⟩:=np
        simp only at hA
        cases e:fz st0.length st1 16 p with
        | none=>rw [e] at hA; exact hA.elim
        | some q=>
          rw [e] at hA
          obtain ⟨rest,ht⟩:=x'.pre
          rw [<- R.len] at e
          obtain ⟨dx,v,e1,e2,e3,e4⟩:=hf
          refine hA C dv H' ρ hm x2 R2 ⟨dx,v,e1,e2,fun z=>e3 (z.imp (fun z=>by rw [<- ht]; exact List.mem_append_left _ z) (x'.hidM dx)),fz_rep (tr0:=ρ.tr) (hs:=ρ.hid) R' ht.symm x'.hidM 16 e4 e⟩
    · rw [if_neg hp] at hA
      exact hA C dv H' ρ' hm x' R' hf
end
theorem fun_ok2 {P:Program} {w:World} {K:PySem.W.Frag} {mg:Str->Option Value} {base:Heap} {x qual:Str} {st:Stmt} {f:Addr} {fd:FuncData} {N ps:List Str} {k n nl:Nat} {m:MS} {FF:FN} (F:Fun K x qual st f fd) (S:FnScope N ps (defScope st)) (hn:ps.length=n) (hnl:N.length=nl) (hF:FF=callF m nl)
    (hb:∀ (cdv:Value) (A:Around) (outer:List PySem.Env) (s:Shared) (H:Hp) (E:XK),Room k (A.deeper (PyProof.Rows.envOfC qual (defScope st) s.heap.objs.size f cdv))->SimB (cxD P w K mg base N qual (defScope st) f cdv A outer s H E) E (defBody st) m) :
    FnOk P w K mg base (CXD P w) (k + 1) f fd ps (spF mg n FF):=by
  subst hn; subst hnl; subst hF
  exact fun_ok F S hb
structure DefS (P:Program) (w:World) (K:PySem.W.Frag) (mg:Str->Option Value) (base:Heap) (k:Nat) (x:Str) (n:Nat) (F:FN):Prop where
  ex:∃ (f:Addr) (fd:FuncData) (ps:List Str),FnOk P w K mg base (CXD P w) k f fd ps (spF mg n F)/\mg x=some (.ref f)/\PySem.W.keepIn K (.ref f)=true/\Binds K fd ps []/\ps.length=n
def mCallF (n:Nat) (F:FN) (mr:Gam->Store->Res (List PV)):ME:=fun Γ st=>(mr Γ st).bind fun ps st1=>if ps.length=n then F ps st1 else .stuck
section
variable {X:Cx} {E:XK} {k n:Nat} {x:Str} {F:FN} {p pos:Pos} {e:Expr} {es:List Expr} {mr:Gam->Store->Res (List PV)}
theorem se_call (D:DefS X.prog X.w X.K X.mg X.base k x n F) (hr:Room k X.A) (hx:Passes (CXD X.prog X.w) X E) (hg:Gl X x) (ha:SimA X E (e :: es) mr) (hdb:(x == ("__debug__" : Str))=false:=by decide)
    (he:starEach (e :: es) X.env=(false,eval e X.env) :: starEach es X.env:=by rfl) (hpl:(backTo pos (starEach es X.env)).any (·.1)=false:=by rfl):SimE X E (.Call (.Name x p) (e :: es) [] pos) (mCallF n F mr):=by
  obtain ⟨f,fd,ps,hF,hm,hk,hb,hl⟩:=D.ex
  exact ⟨fun Γ σ H ρ st Q R G h=>WE.of (pe_call hF hr hg hm hk hb .nil hx pa_w hdb he hpl) (ha.use R G h.bind fun qs st1 H1 ρ1 vs x1 R1 G1 r1 h1=>by
    by_cases hq:qs.length=n
    · rw [if_pos hq] at h1
      show spF X.mg n F (vs ++ []) H1 Q E
      rw [List.append_nil]
      exact ⟨by rw [<- r1.length]; exact hq,ρ1,st1,qs,R1,r1,h1⟩
    · rw [if_neg hq] at h1; exact h1.elim)⟩
end
end Sm
namespace Sm
open PySem PySem.Spec L2
@[simp] theorem bind_ok {α β:Type} (a:α) (st:Store) (f:α->Store->Res β):(Res.ok a st).bind f=f a st:=rfl
@[simp] theorem bind_stuck {α β:Type} (f:α->Store->Res β):(Res.stuck:Res α).bind f=.stuck:=rfl
@[simp] theorem bind_exc {α β:Type} (x:Exc) (st:Store) (f:α->Store->Res β):(Res.exc x st:Res α).bind f=.exc x st:=rfl
@[simp] theorem sbind_ok {α:Type} (a:α) (st:Store) (f:α->Store->SR):(Res.ok a st).sbind f=f a st:=rfl
@[simp] theorem sbind_stuck {α:Type} (f:α->Store->SR):(Res.stuck:Res α).sbind f=.stuck:=rfl
@[simp] theorem sbind_exc {α:Type} (x:Exc) (st:Store) (f:α->Store->SR):(Res.exc x st:Res α).sbind f=.exc x st:=rfl
@[simp] theorem mVar_eq (i:Nat) (Γ:Gam) (st:Store):mVar i Γ st=(match Γ[i]? with | some (some p)=>.ok p st | _=>.stuck):=rfl
@[simp] theorem mC_eq (p:PV) (Γ:Gam) (st:Store):mC p Γ st=.ok p st:=rfl
@[simp] theorem mOp_eq (o:OP) (a b:ME) (Γ:Gam) (st:Store):mOp o a b Γ st=(a Γ st).bind fun x st1=>(b Γ st1).bind fun y st2=>o st2 x y:=rfl
@[simp] theorem asB_bl (b:Bool) (st:Store):asB (.bl b) st=.ok b st:=rfl
@[simp] theorem toB_eq (m:ME) (Γ:Gam) (st:Store):toB m Γ st=(m Γ st).bind asB:=rfl
def selB {α:Type} (x:PV) (A B:Res α):Res α:=match x with
  | .bl true=>A
  | .bl false=>B
  | _=>.stuck
@[simp] theorem selB_bl {α:Type} (b:Bool) (A B:Res α):selB (.bl b) A B=if b=true then A else B:=by cases b <;> rfl
@[simp] theorem mChain_eq (o o':OP) (a b c:ME) (Γ:Gam) (st:Store):mChain o o' a b c Γ st=(a Γ st).bind fun x st1=>(b Γ st1).bind fun y st2=>(o st2 x y).bind fun k st3=>selB k ((c Γ st3).bind fun z st4=>o' st4 y z) (.ok (.bl false) st3):=by
  unfold mChain
  refine congrArg _ (funext fun x=>funext fun st1=>congrArg _ (funext fun y=>funext fun st2=>congrArg _ (funext fun k=>funext fun st3=>?_)))
  cases k with
  | bl b=>cases b <;> rfl
  | _=>rfl
@[simp] theorem mAnd_eq (a b:ME) (Γ:Gam) (st:Store):mAnd a b Γ st=(a Γ st).bind fun x st1=>selB x (b Γ st1) (.ok (.bl false) st1):=by
  unfold mAnd
  refine congrArg _ (funext fun x=>funext fun st1=>?_)
  cases x with
  | bl b=>cases b <;> rfl
  | _=>rfl
@[simp] theorem mOr_eq (a b:ME) (Γ:Gam) (st:Store):mOr a b Γ st=(a Γ st).bind fun x st1=>selB x (.ok (.bl true) st1) (b Γ st1):=by
  unfold mOr
  refine congrArg _ (funext fun x=>funext fun st1=>?_)
  cases x with
  | bl b=>cases b <;> rfl
  | _=>rfl
@[simp] theorem mNot_eq (a:ME) (Γ:Gam) (st:Store):mNot a Γ st=(a Γ st).bind fun x st1=>(match x with | .bl k=>.ok (.bl (!k)) st1 | _=>.stuck):=rfl
@[simp] theorem mNeg_eq (a:ME) (Γ:Gam) (st:Store):mNeg a Γ st=(a Γ st).bind fun x st1=>(match x with | .int k=>.ok (.int (-k)) st1 | _=>.stuck):=rfl
@[simp] theorem tAndM_eq (a b:MT) (Γ:Gam) (st:Store):tAndM a b Γ st=(a Γ st).bind fun k st1=>if k=true then b Γ st1 else .ok false st1:=rfl
@[simp] theorem tOrM_eq (a b:MT) (Γ:Gam) (st:Store):tOrM a b Γ st=(a Γ st).bind fun k st1=>if k=true then .ok true st1 else b Γ st1:=rfl
@[simp] theorem tNotM_eq (a:MT) (Γ:Gam) (st:Store):tNotM a Γ st=(a Γ st).bind fun k st1=>.ok (!k) st1:=rfl
@[simp] theorem mIf_eq (c:MT) (a b:ME) (Γ:Gam) (st:Store):mIf c a b Γ st=(c Γ st).bind fun k st1=>if k=true then a Γ st1 else b Γ st1:=rfl
@[simp] theorem mNil_eq (Γ:Gam) (st:Store):mNil Γ st=.ok [] st:=rfl
@[simp] theorem mCons_eq (m:ME) (mr:ML) (Γ:Gam) (st:Store):mCons m mr Γ st=(m Γ st).bind fun p st1=>(mr Γ st1).bind fun ps st2=>.ok (p :: ps) st2:=rfl
@[simp] theorem mTup_eq (mr:ML) (Γ:Gam) (st:Store):mTup mr Γ st=(mr Γ st).bind fun ps st1=>if ps.length<=lim then .ok (.tup ps) st1 else .stuck:=rfl
@[simp] theorem mLst_eq (mr:ML) (Γ:Gam) (st:Store):mLst mr Γ st=(mr Γ st).bind fun ps st1=>if ps.length<=lim then .ok (.lst ps) st1 else .stuck:=rfl
@[simp] theorem mLstN_eq (mr:ML) (Γ:Gam) (st:Store):mLstN mr Γ st=(mr Γ st).bind fun ps st1=>if ps.length<=lim then .ok ps st1 else .stuck:=rfl
@[simp] theorem mSl_eq (m:ME) (l h:Gam->Store->Res (Option Int)) (Γ:Gam) (st:Store):mSl m l h Γ st=(m Γ st).bind fun p st1=>(l Γ st1).bind fun lo st2=>(h Γ st2).bind fun hi st3=>oSl st3 p lo hi:=rfl
@[simp] theorem mNoPart_eq (Γ:Gam) (st:Store):mNoPart Γ st=.ok none st:=rfl
@[simp] theorem mPart_eq (m:ME) (Γ:Gam) (st:Store):mPart m Γ st=(m Γ st).bind fun p st1=>(match p with | .int i=>.ok (some i) st1 | _=>.stuck):=rfl
@[simp] theorem mCall_eq (o:CF) (mr:ML) (Γ:Gam) (st:Store):mCall o mr Γ st=(mr Γ st).bind fun ps st1=>o st1 ps:=rfl
@[simp] theorem mIsI_eq (T:String) (m:ME) (Γ:Gam) (st:Store):mIsI T m Γ st=(m Γ st).bind fun p st1=>.ok (.bl (isI T p)) st1:=rfl
@[simp] theorem mVal_eq (m:ML) (Γ:Gam) (st:Store):mVal m Γ st=(m Γ st).bind fun ps st1=>.ok (.lst ps) st1:=rfl
@[simp] theorem mTrk_eq (m:ML) (Γ:Gam) (st:Store):mTrk m Γ st=(m Γ st).bind fun ps st1=>.ok (.ref st1.length) (st1 ++ [.lst ps]):=rfl
@[simp] theorem mCompN_eq (cap:List (Option Nat)) (ga:GA) (mi:MI) (mt:MT) (me:ME) (Γ:Gam) (st:Store):mCompN cap ga mi mt me Γ st=(mi Γ st).bind fun iw st1=>noX (compG ga mt me iw.2 (capG cap Γ) iw.1 st1):=rfl
@[simp] theorem mTrue_eq (Γ:Gam) (st:Store):mTrue Γ st=.ok true st:=rfl
@[simp] theorem mCallF_eq (n:Nat) (F:FN) (mr:ML) (Γ:Gam) (st:Store):mCallF n F mr Γ st=(mr Γ st).bind fun ps st1=>if ps.length=n then F ps st1 else .stuck:=rfl
@[simp] theorem mNext_eq (Γ:Gam) (st:Store):mNext Γ st=.nx Γ st:=rfl
@[simp] theorem mSeqS_eq (a b:MS) (Γ:Gam) (st:Store):mSeqS a b Γ st=(match a Γ st with | .nx Γ1 st1=>b Γ1 st1 | r=>r):=rfl
@[simp] theorem mExpr_eq (m:ME) (Γ:Gam) (st:Store):mExpr m Γ st=(m Γ st).sbind fun _ st1=>.nx Γ st1:=rfl
@[simp] theorem mRet_eq (m:ME) (Γ:Gam) (st:Store):mRet m Γ st=(m Γ st).sbind fun p st1=>.rt p st1:=rfl
@[simp] theorem mRetN_eq (Γ:Gam) (st:Store):mRetN Γ st=.rt .non st:=rfl
@[simp] theorem mSet_eq (i:Nat) (m:ME) (Γ:Gam) (st:Store):mSet i m Γ st=(m Γ st).sbind fun p st1=>.nx (Γ.set i (some p)) st1:=rfl
@[simp] theorem mIfS_eq (c:MT) (a b:MS) (Γ:Gam) (st:Store):mIfS c a b Γ st=(c Γ st).sbind fun k st1=>if k=true then a Γ st1 else b Γ st1:=rfl
@[simp] theorem mFor_eq (ga:GA) (mi:MI) (b:MS) (Γ:Gam) (st:Store):mFor ga mi b Γ st=(mi Γ st).sbind fun iw st1=>forG ga b iw.2 iw.1 Γ st1:=rfl
@[simp] theorem mSeq_eq (m:ME) (Γ:Gam) (st:Store):mSeq m Γ st=(m Γ st).bind fun p st1=>(match srcOf st1 p with | some (xs,w)=>if xs.length<=lim then .ok (xs,w) st1 else .stuck | none=>.stuck):=rfl
@[simp] theorem mRange1_eq (mr:ML) (Γ:Gam) (st:Store):mRange1 mr Γ st=(mr Γ st).bind fun ps st1=>(match ps with | [.int j]=>if -(lim:Int)<=j/\j<=lim then .ok (rangeI 0 j.toNat,[]) st1 else .stuck | _=>.stuck):=rfl
@[simp] theorem mRange2_eq (mr:ML) (Γ:Gam) (st:Store):mRange2 mr Γ st=(mr Γ st).bind fun ps st1=>(match ps with | [.int i,.int j]=>if -(lim:Int)<=i/\i<=lim/\-(lim:Int)<=j/\j<=lim then .ok (rangeI i (j - i).toNat,[]) st1 else .stuck | _=>.stuck):=rfl
@[simp] theorem mZip_eq (mr:ML) (Γ:Gam) (st:Store):mZip mr Γ st=(mr Γ st).bind fun ps st1=>(match ps with | [p,q]=>(match srcOf st1 p,srcOf st1 q with | some (xs,w),some (ys,w')=>if xs.length<=lim then .ok (zipT xs ys,w ++ w') st1 else .stuck | _,_=>.stuck) | _=>.stuck):=rfl
@[simp] theorem mEnum_eq (mr:ML) (Γ:Gam) (st:Store):mEnum mr Γ st=(mr Γ st).bind fun ps st1=>(match ps with | [p]=>(match srcOf st1 p with | some (xs,w)=>if xs.length<=lim then .ok (enumT 0 xs,w) st1 else .stuck | none=>.stuck) | _=>.stuck):=rfl
@[simp] theorem mBM_eq (f:MF) (mo:ME) (mr:ML) (Γ:Gam) (st:Store):mBM f mo mr Γ st=(mo Γ st).bind fun p st1=>(match listOf st1 p with | some _=>(mr Γ st1).bind fun ps st2=>f st2 p ps | none=>.stuck):=rfl
@[simp] theorem mAsg_eq (ga:GA) (m:ME) (Γ:Gam) (st:Store):mAsg ga m Γ st=(m Γ st).sbind fun p st1=>(match ga p Γ with | some Γ1=>.nx Γ1 st1 | none=>.stuck):=rfl
@[simp] theorem mSetIx_eq (mo mi m:ME) (Γ:Gam) (st:Store):mSetIx mo mi m Γ st=(m Γ st).sbind fun p st1=>(mo Γ st1).sbind fun o st2=>(mi Γ st2).sbind fun i st3=>(match setIx st3 o i p with | some st4=>.nx Γ st4 | none=>.stuck):=rfl
@[simp] theorem mRaise_eq (x:Str) (m:ME) (Γ:Gam) (st:Store):mRaise x m Γ st=(m Γ st).sbind fun _ st1=>.exc ⟨x,none⟩ st1:=rfl
@[simp] theorem gaName_eq (i:Nat) (p:PV) (Γ:Gam):gaName i p Γ=some (Γ.set i (some p)):=rfl
@[simp] theorem gaNil_eq (Γ:Gam):gaNil [] Γ=some Γ:=rfl
@[simp] theorem gaCons_eq (g:GA) (gs:GAs) (p:PV) (r:List PV) (Γ:Gam):gaCons g gs (p :: r) Γ=(g p Γ).bind (gs r):=rfl
@[simp] theorem gaTup_eq (gs:GAs) (ps:List PV) (Γ:Gam):gaTup gs (.tup ps) Γ=gs ps Γ:=rfl
@[simp] theorem noX_ok {α:Type} (a:α) (st:Store):noX (Res.ok a st)=.ok a st:=rfl
@[simp] theorem noX_stuck {α:Type}:noX (Res.stuck:Res α)=.stuck:=rfl
@[simp] theorem okO_some {α:Type} (st:Store) (a:α):okO st (some a)=.ok a st:=rfl
@[simp] theorem okO_none {α:Type} (st:Store):okO st (none:Option α)=.stuck:=rfl
@[simp] theorem oI_eq (g:Int->Int->PV) (st:Store) (a b:Int):oI g st (.int a) (.int b)=.ok (g a b) st:=rfl
@[simp] theorem oAdd_int (st:Store) (a b:Int):oAdd st (.int a) (.int b)=.ok (.int (a + b)) st:=rfl
@[simp] theorem oAdd_tup (st:Store) (a b:List PV):oAdd st (.tup a) (.tup b)=if a.length + b.length<=lim then .ok (.tup (a ++ b)) st else .stuck:=rfl
@[simp] theorem oMul_int (st:Store) (a b:Int):oMul st (.int a) (.int b)=if (-(2 ^ 64) < a/\a < 2 ^ 64)\/(-(2 ^ 64) < b/\b < 2 ^ 64) then .ok (.int (a * b)) st else .stuck:=rfl
@[simp] theorem oMul_tup (st:Store) (xs:List PV) (b:Int):oMul st (.tup xs) (.int b)=if xs ≠ []/\1<=b/\xs.length * b.toNat<=4096 then .ok (.tup (List.replicate b.toNat xs).flatten) st else .stuck:=rfl
@[simp] theorem oMod_int (st:Store) (a b:Int):oMod st (.int a) (.int b)=if 0 < b then .ok (.int (a % b)) st else .stuck:=rfl
@[simp] theorem oDiv_int (st:Store) (a b:Int):oDiv st (.int a) (.int b)=if 0 < b/\b < 1073741824 then .ok (.int (a / b)) st else .stuck:=rfl
@[simp] theorem oPow_int (st:Store) (a b:Int):oPow st (.int a) (.int b)=if 0<=b/\b<=1000000/\a.natAbs < 2 ^ 64 then .ok (.int (a ^ b.toNat)) st else .stuck:=rfl
@[simp] theorem oLt_int (st:Store) (a b:Int):oLt st (.int a) (.int b)=.ok (.bl (decide (a < b))) st:=rfl
@[simp] theorem oEq_int (st:Store) (a b:Int):oEq st (.int a) (.int b)=.ok (.bl (a == b)) st:=rfl
@[simp] theorem oNe_int (st:Store) (a b:Int):oNe st (.int a) (.int b)=.ok (.bl (!(a == b))) st:=rfl
@[simp] theorem oEq_bl (st:Store) (a b:Bool):oEq st (.bl a) (.bl b)=.ok (.bl (a == b)) st:=rfl
@[simp] theorem oNe_bl (st:Store) (a b:Bool):oNe st (.bl a) (.bl b)=.ok (.bl (!(a == b))) st:=rfl
@[simp] theorem oEq_str (st:Store) (a b:Str):oEq st (.str a) (.str b)=.ok (.bl (a == b)) st:=rfl
@[simp] theorem oNe_str (st:Store) (a b:Str):oNe st (.str a) (.str b)=.ok (.bl (!(a == b))) st:=rfl
@[simp] theorem oIs_non (st:Store) (p:PV):oIs st p .non=.ok (.bl (isNon p)) st:=rfl
@[simp] theorem oIs_bl (st:Store) (a b:Bool):oIs st (.bl a) (.bl b)=.ok (.bl (a == b)) st:=rfl
@[simp] theorem oIsNot_non (st:Store) (p:PV):oIsNot st p .non=.ok (.bl (!isNon p)) st:=rfl
@[simp] theorem oIsNot_bl (st:Store) (a b:Bool):oIsNot st (.bl a) (.bl b)=.ok (.bl (a != b)) st:=rfl
@[simp] theorem lstOf_lst (st:Store) (xs:List PV):lstOf st (.lst xs)=some xs:=rfl
@[simp] theorem listOf_lst (st:Store) (xs:List PV):listOf st (.lst xs)=some xs:=rfl
@[simp] theorem listOf_fro (st:Store) (xs:List PV):listOf st (.fro xs)=some xs:=rfl
@[simp] theorem seqOf_lst (st:Store) (xs:List PV):seqOf st (.lst xs)=some xs:=rfl
@[simp] theorem seqOf_fro (st:Store) (xs:List PV):seqOf st (.fro xs)=some xs:=rfl
@[simp] theorem seqOf_tup (st:Store) (xs:List PV):seqOf st (.tup xs)=some xs:=rfl
@[simp] theorem srcOf_lst (st:Store) (xs:List PV):srcOf st (.lst xs)=some (xs,[]):=rfl
@[simp] theorem srcOf_fro (st:Store) (xs:List PV):srcOf st (.fro xs)=some (xs,[]):=rfl
@[simp] theorem srcOf_tup (st:Store) (xs:List PV):srcOf st (.tup xs)=some (xs,[]):=rfl
@[simp] theorem oIx_tup (st:Store) (xs:List PV) (i:Int):oIx st (.tup xs) (.int i)=okO st (atI xs i):=rfl
@[simp] theorem oIx_lst (st:Store) (xs:List PV) (i:Int):oIx st (.lst xs) (.int i)=okO st (atI xs i):=rfl
@[simp] theorem oIx_fro (st:Store) (xs:List PV) (i:Int):oIx st (.fro xs) (.int i)=okO st (atI xs i):=rfl
@[simp] theorem oSl_tup (st:Store) (xs:List PV) (l h:Option Int):oSl st (.tup xs) l h=.ok (.tup (cut xs l h)) st:=rfl
@[simp] theorem oSl_lst (st:Store) (xs:List PV) (l h:Option Int):oSl st (.lst xs) l h=.ok (.lst (cut xs l h)) st:=rfl
@[simp] theorem oSl_fro (st:Store) (xs:List PV) (l h:Option Int):oSl st (.fro xs) l h=.ok (.lst (cut xs l h)) st:=rfl
@[simp] theorem cLen_tup (st:Store) (xs:List PV):cLen st [.tup xs]=.ok (.int xs.length) st:=rfl
@[simp] theorem cLen_lst (st:Store) (xs:List PV):cLen st [.lst xs]=.ok (.int xs.length) st:=rfl
@[simp] theorem cLen_fro (st:Store) (xs:List PV):cLen st [.fro xs]=.ok (.int xs.length) st:=rfl
@[simp] theorem cList_tup (st:Store) (xs:List PV):cList st [.tup xs]=.ok (.lst xs) st:=rfl
@[simp] theorem cList_lst (st:Store) (xs:List PV):cList st [.lst xs]=.ok (.lst xs) st:=rfl
@[simp] theorem cList_fro (st:Store) (xs:List PV):cList st [.fro xs]=.ok (.lst xs) st:=rfl
@[simp] theorem cTuple_tup (st:Store) (xs:List PV):cTuple st [.tup xs]=.ok (.tup xs) st:=rfl
@[simp] theorem cTuple_lst (st:Store) (xs:List PV):cTuple st [.lst xs]=.ok (.tup xs) st:=rfl
@[simp] theorem cBls_lst (g:List Bool->PV) (st:Store) (bs:List Bool):cBls g st [.lst (bs.map .bl)]=.ok (g bs) st:=by
  simp only [cBls,seqOf_lst,Option.bind_some,bls_map]
@[simp] theorem cInts_lst (g:List Int->Option PV) (st:Store) (ns:List Int):cInts g st [.lst (ns.map .int)]=okO st (g ns):=by
  simp only [cInts,seqOf_lst,Option.bind_some,ints_map]
@[simp] theorem cInts_tup (g:List Int->Option PV) (st:Store) (ns:List Int):cInts g st [.tup (ns.map .int)]=okO st (g ns):=by
  simp only [cInts,seqOf_tup,Option.bind_some,ints_map]
@[simp] theorem cMax_int (st:Store) (a b:Int):cMax st [.int a,.int b]=.ok (.int (if b > a then b else a)) st:=rfl
@[simp] theorem cMin_int (st:Store) (a b:Int):cMin st [.int a,.int b]=.ok (.int (if b < a then b else a)) st:=rfl
@[simp] theorem wOk_nil' (st:Store):wOk [] st=True:=by simp [wOk]
@[simp] theorem fin_bl (st:Store) (b:Bool):fin st (.bl b) st=.ok (.bl b) st:=by simp [fin,fz]
@[simp] theorem fin_int (st:Store) (b:Int):fin st (.int b) st=.ok (.int b) st:=by simp [fin,fz]
@[simp] theorem fin_non (st:Store):fin st .non st=.ok .non st:=by simp [fin,fz]
@[simp] theorem fin_str (st:Store) (b:Str):fin st (.str b) st=.ok (.str b) st:=by simp [fin,fz]
theorem fin_good {st:Store} {v:PV} (g:good 12 v=true):fin st v st=.ok v st:=by
  simp only [fin,List.prefix_rfl,if_true,fz_good g (by decide:12 < 16),okO_some]
theorem fin_goodA {st more:Store} {v:PV} (g:good 12 v=true):fin st v (st ++ more)=.ok v st:=by
  simp only [fin,List.prefix_append,if_true,fz_good g (by decide:12 < 16),okO_some]
theorem lim_eq:lim=1000000:=rfl
theorem compG_on {α:Type} (g f:α->PV) {ga:GA} {me:ME} {w:Wt} {Γ0:Gam} {st:Store} (hw:wOk w st) {ys:List α} (h:∀ y ∈ ys,∃ Γ1,ga (g y) Γ0=some Γ1/\me Γ1 st=.ok (f y) st):compG ga mTrue me w Γ0 (ys.map g) st=.ok (ys.map f) st:=by
  induction ys with
  | nil=>simp [compG,hw]
  | cons y ys ih=>
    obtain ⟨Γ1,h1,h2⟩:=h y List.mem_cons_self
    have ih:=ih fun z hz=>h z (List.mem_cons_of_mem _ hz)
    rw [List.map_cons,compG,if_pos hw,h1]
    simp [h2,ih]
theorem compG_onF {α:Type} (g f:α->PV) (t:α->Bool) {ga:GA} {mt:MT} {me:ME} {w:Wt} {Γ0:Gam} {st:Store} (hw:wOk w st) {ys:List α} (h:∀ y ∈ ys,∃ Γ1,ga (g y) Γ0=some Γ1/\mt Γ1 st=.ok (t y) st/\(t y=true->me Γ1 st=.ok (f y) st)):compG ga mt me w Γ0 (ys.map g) st=.ok ((ys.filter t).map f) st:=by
  induction ys with
  | nil=>simp [compG,hw]
  | cons y ys ih=>
    obtain ⟨Γ1,h1,h2,h3⟩:=h y List.mem_cons_self
    have ih:=ih fun z hz=>h z (List.mem_cons_of_mem _ hz)
    rw [List.map_cons,compG,if_pos hw,h1]
    simp only [h2,bind_ok,ih]
    cases tx:t y with
    | true=>simp [h3 tx,tx,ih]
    | false=>simp [tx]
@[simp] theorem cBls_map {α:Type} (g:List Bool->PV) (st:Store) (ys:List α) (b:α->Bool):cBls g st [.lst (ys.map fun y=>.bl (b y))]=.ok (g (ys.map b)) st:=by
  rw [show (ys.map fun y=>PV.bl (b y))=(ys.map b).map .bl by rw [List.map_map]; rfl,cBls_lst]
@[simp] theorem cInts_map {α:Type} (g:List Int->Option PV) (st:Store) (ys:List α) (b:α->Int):cInts g st [.lst (ys.map fun y=>.int (b y))]=okO st (g (ys.map b)):=by
  rw [show (ys.map fun y=>PV.int (b y))=(ys.map b).map .int by rw [List.map_map]; rfl,cInts_lst]
theorem forG_search {α:Type} (g:α->PV) (J:Gam->Prop) (Pd:α->Bool) (v:PV) {ga:GA} {body:MS} {w:Wt} {st:Store} (hw:wOk w st):∀ {xs:List α},(∀ x ∈ xs,∀ Γ,J Γ->∃ Γ1,ga (g x) Γ=some Γ1/\(Pd x=true->∃ Γ2,J Γ2/\body Γ1 st=.nx Γ2 st)/\(Pd x=false->body Γ1 st=.rt v st)) ->
    ∀ Γ,J Γ->(xs.all Pd=true->∃ Γ',J Γ'/\forG ga body w (xs.map g) Γ st=.nx Γ' st)/\(xs.all Pd=false->forG ga body w (xs.map g) Γ st=.rt v st)
  | [],_,Γ,hJ=>⟨fun _=>⟨Γ,hJ,by simp [forG,hw]⟩,fun h=>by simp at h⟩
  | x :: xs,h,Γ,hJ=>by
    obtain ⟨Γ1,h1,h2,h3⟩:=h x List.mem_cons_self Γ hJ
    rw [List.map_cons,forG,if_pos hw,h1]
    cases px:Pd x with
    | false=>
      refine ⟨fun z=>by simp [px] at z,fun _=>?_⟩
      simp only [h3 px]
    | true=>
      obtain ⟨Γ2,j2,e2⟩:=h2 px
      have ih:=forG_search g J Pd v (ga:=ga) (body:=body) hw (xs:=xs) (fun y hy=>h y (List.mem_cons_of_mem _ hy)) Γ2 j2
      simp only [e2,List.all_cons,px,Bool.true_and]
      exact ih
theorem forG_inv {α:Type} (g:α->PV) {xs:List α} (I:Nat->Gam->Store->Prop) {ga:GA} {body:MS} {w:Wt} (hw:∀ i Γ st,I i Γ st->wOk w st)
    (h:∀ (i:Nat) x Γ st,xs[i]?=some x->I i Γ st->∃ Γ1,ga (g x) Γ=some Γ1/\∃ Γ2 st2,body Γ1 st=.nx Γ2 st2/\I (i + 1) Γ2 st2) {Γ:Gam} {st:Store} (h0:I 0 Γ st):∃ Γ' st',forG ga body w (xs.map g) Γ st=.nx Γ' st'/\I xs.length Γ' st':=by
  induction xs generalizing I Γ st with
  | nil=>exact ⟨Γ,st,by simp [forG,hw 0 Γ st h0],h0⟩
  | cons x xs ih=>
    obtain ⟨Γ1,h1,Γ2,st2,e2,i2⟩:=h 0 x Γ st rfl h0
    obtain ⟨Γ',st',e3,i3⟩:=ih (fun i=>I (i + 1)) (fun i Γ st z=>hw (i + 1) Γ st z) (fun i y Γ st hy z=>h (i + 1) y Γ st (by simpa using hy) z) i2
    refine ⟨Γ',st',?_,i3⟩
    rw [List.map_cons,forG,if_pos (hw 0 Γ st h0),h1]
    simp only [e2]
    exact e3
theorem forG_invL {α:Type} (g:α->PV) {xs:List α} (I:List α->Gam->Store->Prop) {ga:GA} {body:MS} {w:Wt} (hw:∀ pre Γ st,I pre Γ st->wOk w st)
    (h:∀ pre x post Γ st,xs=pre ++ x :: post->I pre Γ st->∃ Γ1,ga (g x) Γ=some Γ1/\∃ Γ2 st2,body Γ1 st=.nx Γ2 st2/\I (pre ++ [x]) Γ2 st2) {Γ:Gam} {st:Store} (h0:I [] Γ st):∃ Γ' st',forG ga body w (xs.map g) Γ st=.nx Γ' st'/\I xs Γ' st':=by
  have key:∀ (post pre:List α) (Γ:Gam) (st:Store),xs=pre ++ post->I pre Γ st->∃ Γ' st',forG ga body w (post.map g) Γ st=.nx Γ' st'/\I xs Γ' st':=by
    intro post
    induction post with
    | nil=>intro pre Γ st e i; exact ⟨Γ,st,by simp [forG,hw pre Γ st i],by rw [e,List.append_nil]; exact i⟩
    | cons x post ih=>
      intro pre Γ st e i
      obtain ⟨Γ1,h1,Γ2,st2,e2,i2⟩:=h pre x post Γ st e i
      obtain ⟨Γ',st',e3,i3⟩:=ih (pre ++ [x]) Γ2 st2 (by rw [e]; simp) i2
      refine ⟨Γ',st',?_,i3⟩
      rw [List.map_cons,forG,if_pos (hw pre Γ st i),h1]
      simp only [e2]
      exact e3
  exact key xs [] Γ st rfl h0
theorem zipT_map {α β:Type} (f:α->PV) (g:β->PV) (xs:List α) (ys:List β):zipT (xs.map f) (ys.map g)=(xs.zip ys).map fun z=>.tup [f z.1,g z.2]:=by
  rw [zipT_eq,List.zip_map,List.map_map]; rfl
theorem enumT_map {α:Type} (f:α->PV):∀ (n:Nat) (xs:List α),enumT n (xs.map f)=(xs.zipIdx n).map fun z=>.tup [.int (z.2:Nat),f z.1]
  | n,[]=>rfl
  | n,x :: xs=>by rw [List.map_cons,enumT,enumT_map f (n + 1) xs]; rfl
theorem atI_map {α:Type} (f:α->PV) (xs:List α) (i:Int):atI (xs.map f) i=(atI xs i).map f:=by
  unfold atI
  rw [List.length_map]
  cases ixN xs.length i with
  | none=>rfl
  | some j=>simp [List.getElem?_map]
theorem atI_get {α:Type} {xs:List α} {i:Nat} {x:α} (h:xs[i]?=some x):atI xs (i:Int)=some x:=by
  have hl:=(List.getElem?_eq_some_iff.mp h).1
  unfold atI ixN
  rw [if_pos (by omega),if_pos (by omega)]
  simpa using h
theorem cut_map {α:Type} (f:α->PV) (xs:List α) (l h:Option Int):cut (xs.map f) l h=(cut xs l h).map f:=by
  unfold cut
  rw [List.length_map,<- List.map_drop,<- List.map_take]
theorem rangeI0 (n:Nat):rangeI 0 n=(List.range n).map fun (k:Nat)=>PV.int (k:Int):=by
  unfold rangeI
  refine List.map_congr_left fun k _=>?_
  rw [Int.zero_add]
@[simp] theorem tr_get {α:Type} (st l:List α) (c:α):(st ++ c :: l)[st.length]?=some c:=by
  rw [List.getElem?_append_right (Nat.le_refl _),Nat.sub_self]; rfl
@[simp] theorem tr_get1 {α:Type} (st l:List α) (c d:α):(st ++ c :: d :: l)[st.length + 1]?=some d:=by
  rw [List.getElem?_append_right (by omega)]
  rw [show st.length + 1 - st.length=1 by omega]; rfl
@[simp] theorem tr_set {α:Type} (st l:List α) (c d:α):(st ++ c :: l).set st.length d=st ++ d :: l:=by
  rw [List.set_append_right _ _ (Nat.le_refl _),Nat.sub_self]; rfl
@[simp] theorem tr_set1 {α:Type} (st l:List α) (c c' d:α):(st ++ c :: c' :: l).set (st.length + 1) d=st ++ c :: d :: l:=by
  rw [List.set_append_right _ _ (by omega),show st.length + 1 - st.length=1 by omega]; rfl
@[simp] theorem chg_ref (st:Store) (i:Nat) (g:List PV->Option (PV × List PV)):chg st (.ref i) g=(match st[i]? with | some (.lst xs)=>(match g xs with | some (r,ys)=>.ok r (st.set i (.lst ys)) | none=>.stuck) | none=>.stuck):=rfl
@[simp] theorem lstOf_r (st:Store) (i:Nat):lstOf st (.ref i)=(match st[i]? with | some (.lst xs)=>some xs | none=>none):=rfl
@[simp] theorem listOf_r (st:Store) (i:Nat):listOf st (.ref i)=(match st[i]? with | some (.lst xs)=>some xs | none=>none):=rfl
@[simp] theorem seqOf_r (st:Store) (i:Nat):seqOf st (.ref i)=(match st[i]? with | some (.lst xs)=>some xs | none=>none):=rfl
@[simp] theorem srcOf_r (st:Store) (i:Nat):srcOf st (.ref i)=(match st[i]? with | some (.lst xs)=>some (xs,[(i,xs)]) | none=>none):=rfl
@[simp] theorem mtAppend_eq (st:Store) (p y:PV):mtAppend st p [y]=chg st p fun xs=>if xs.length < lim then some (.non,xs ++ [y]) else none:=rfl
@[simp] theorem cTuple_r (st:Store) (i:Nat):cTuple st [.ref i]=(match st[i]? with | some (.lst xs)=>.ok (.tup xs) st | none=>.stuck):=by
  unfold cTuple; simp only [seqOf_r]
  cases st[i]? with
  | none=>rfl
  | some c=>cases c; rfl
@[simp] theorem cList_r (st:Store) (i:Nat):cList st [.ref i]=(match st[i]? with | some (.lst xs)=>.ok (.lst xs) st | none=>.stuck):=by
  unfold cList; simp only [seqOf_r]
  cases st[i]? with
  | none=>rfl
  | some c=>cases c; rfl
@[simp] theorem cLen_r (st:Store) (i:Nat):cLen st [.ref i]=(match st[i]? with | some (.lst xs)=>.ok (.int xs.length) st | none=>.stuck):=by
  unfold cLen; simp only [seqOf_r]
  cases st[i]? with
  | none=>rfl
  | some c=>cases c; rfl
@[simp] theorem oIx_r (st:Store) (i:Nat) (j:Int):oIx st (.ref i) (.int j)=(match st[i]? with | some (.lst xs)=>okO st (atI xs j) | none=>.stuck):=by
  unfold oIx; simp only [seqOf_r]
  cases st[i]? with
  | none=>rfl
  | some c=>cases c; rfl
@[simp] theorem setIx_r (st:Store) (k:Nat) (j:Int) (p:PV):setIx st (.ref k) (.int j) p=(match st[k]? with | some (.lst xs)=>(ixN xs.length j).map fun n=>st.set k (.lst (xs.set n p)) | none=>none):=rfl
theorem cut_front {α:Type} (xs:List α) (k:Nat):cut xs none (some (k:Int))=xs.take k:=by
  unfold cut
  rw [HT.sIx_none,HT.sIx_nat,List.drop_zero,Nat.sub_zero]
  rcases Nat.le_total k xs.length with h | h
  · rw [Nat.min_eq_left h]
  · rw [Nat.min_eq_right h,List.take_length,List.take_of_length_le h]
theorem cut_back {α:Type} (xs:List α) (k:Nat):cut xs (some (k:Int)) none=xs.drop k:=by
  unfold cut
  rw [HT.sIx_none,HT.sIx_nat]
  rcases Nat.le_total k xs.length with h | h
  · rw [Nat.min_eq_left h,List.take_of_length_le (by rw [List.length_drop]; omega)]
  · rw [Nat.min_eq_right h,List.drop_length,List.drop_of_length_le h]; simp
end Sm
namespace Sm
open PySem PySem.Spec L2
theorem getD_some {α:Type} {l:List α} {j:Nat} (h:j < l.length) (d:α):l[j]?=some (l.getD j d):=by
  rw [List.getD,List.getElem?_eq_getElem h]; rfl
def ListAt (st:Store) (V:PV) (xs:List PV):Prop:=V=.lst xs\/V=.fro xs\/∃ i,V=.ref i/\st[i]?=some (.lst xs)
theorem ListAt.ix {st:Store} {V:PV} {xs:List PV} (h:ListAt st V xs) (j:Int):oIx st V (.int j)=okO st (atI xs j):=by
  rcases h with rfl | rfl | ⟨i,rfl,e⟩
  · rfl
  · rfl
  · rw [oIx_r,e]
theorem ListAt.len {st:Store} {V:PV} {xs:List PV} (h:ListAt st V xs):cLen st [V]=.ok (.int xs.length) st:=by
  rcases h with rfl | rfl | ⟨i,rfl,e⟩
  · rfl
  · rfl
  · rw [cLen_r,e]
theorem ListAt.src {st:Store} {V:PV} {xs:List PV} (h:ListAt st V xs):∃ w,srcOf st V=some (xs,w)/\wOk w st:=by
  rcases h with rfl | rfl | ⟨i,rfl,e⟩
  · exact ⟨[],rfl,by simp⟩
  · exact ⟨[],rfl,by simp⟩
  · exact ⟨[(i,xs)],by rw [srcOf_r,e],by simp [wOk,e]⟩
theorem compG_inv {α:Type} (g:α->PV) {xs:List α} (I:Nat->List PV->Store->Prop) {ga:GA} {me:ME} {w:Wt} {Γ0:Gam} (hw:∀ i out st,I i out st->wOk w st)
    (h:∀ (i:Nat) x out st,xs[i]?=some x->I i out st->∃ Γ1,ga (g x) Γ0=some Γ1/\∃ v st2,me Γ1 st=.ok v st2/\I (i + 1) (out ++ [v]) st2) {st:Store} (h0:I 0 [] st):∃ out st',compG ga mTrue me w Γ0 (xs.map g) st=.ok out st'/\I xs.length out st':=by
  have key:∀ (ys:List α) (k:Nat) (pre:List PV) (st:Store),(∀ i,ys[i]?=xs[k + i]?)->k + ys.length=xs.length->I k pre st->∃ out st',compG ga mTrue me w Γ0 (ys.map g) st=.ok out st'/\I xs.length (pre ++ out) st':=by
    intro ys
    induction ys with
    | nil=>
      intro k pre st e e2 i
      refine ⟨[],st,by simp [compG,hw k pre st i],?_⟩
      rw [List.append_nil,<- e2]; exact i
    | cons y ys ih=>
      intro k pre st e e2 i
      have e0:xs[k]?=some y:=by have:=e 0; simpa using this.symm
      obtain ⟨Γ1,h1,v,st2,h2,i2⟩:=h k y pre st e0 i
      obtain ⟨out,st',h3,i3⟩:=ih (k + 1) (pre ++ [v]) st2 (fun i=>by
        have:=e (i + 1)
        rw [List.getElem?_cons_succ] at this
        rw [this]; congr 1; omega) (by rw [<- e2,List.length_cons]; omega) i2
      refine ⟨v :: out,st',?_,by simpa using i3⟩
      rw [List.map_cons,compG,if_pos (hw k pre st i),h1]
      simp [mTrue,h2,h3]
  obtain ⟨out,st',h1,h2⟩:=key xs 0 [] st (fun i=>by simp) (by simp) h0
  exact ⟨out,st',h1,by simpa using h2⟩
@[simp] theorem mListN_eq (ma:ME) (Γ:Gam) (st:Store):mListN ma Γ st=(ma Γ st).bind fun p st1=>match seqOf st1 p with | some xs=>.ok xs st1 | none=>.stuck:=rfl
@[simp] theorem mAddN_eq (ma mb:ME) (Γ:Gam) (st:Store):mAddN ma mb Γ st=(ma Γ st).bind fun x st1=>(mb Γ st1).bind fun y st2=>oAddN st2 x y:=rfl
@[simp] theorem mRepN_eq (ma mb:ME) (Γ:Gam) (st:Store):mRepN ma mb Γ st=(ma Γ st).bind fun x st1=>(mb Γ st1).bind fun y st2=>oRepN st2 x y:=rfl
theorem ixN_nat {n k:Nat} (h:k < n):ixN n (k:Int)=some k:=by
  unfold ixN
  rw [if_pos (by omega),if_pos (by omega)]
  simp
end Sm
namespace Sm
open PySem PySem.Spec L2
section
variable {X:Cx} {E:XK} {a b:Expr} {ma mb:ME} {pos:Pos}
def mRevN (ma mb:ME):ML:=fun Γ st=>(ma Γ st).bind fun p st1=>(mb Γ st1).bind fun q st2=>match q,listOf st2 p with
  | .int i,some xs=>if i=-1 then .ok xs.reverse st2 else .stuck
  | _,_=>.stuck
@[simp] theorem mRevN_eq (ma mb:ME) (Γ:Gam) (st:Store):mRevN ma mb Γ st=(ma Γ st).bind fun p st1=>(mb Γ st1).bind fun q st2=>match q,listOf st2 p with
  | .int i,some xs=>if i=-1 then .ok xs.reverse st2 else .stuck
  | _,_=>.stuck:=rfl
def mLRN (ma:ME):ML:=fun Γ st=>(ma Γ st).bind fun p st1=>match p with
  | .int i=>if 0<=i/\i<=1000000 then .ok ((List.range i.toNat).map fun (k:Nat)=>.int (k:Int)) st1 else .stuck
  | _=>.stuck
theorem repL_range {H:Hp} {ρ:Tk} (ks:List Nat):RepL H ρ (ks.map fun (k:Nat)=>.int (k:Int)) (ks.map fun (k:Nat)=>V.int (k:Int)):=by
  induction ks with
  | nil=>exact RepL.nil
  | cons k ks ih=>exact RepL.cons rfl ih
theorem sn_lrange {p p' pos':Pos} (ha:SimE X E a ma) (hc:X.calm=true) (hg:Gl X "list") (hm:X.mg "list" = none) (hg':Gl X "range") (hm':X.mg "range" = none) (he:starEach [a] X.env=(false,eval a X.env) :: starEach [] X.env:=by rfl) (hs:starEach [a] X.env=[(false,eval a X.env)]:=by rfl)
    (hs2:starEach [.Call (.Name "range" p') [a] [] pos'] X.env=[(false,eval (.Call (.Name "range" p') [a] [] pos') X.env)]:=by rfl):SimN X E (.Call (.Name "list" p) [.Call (.Name "range" p') [a] [] pos'] [] pos) (mLRN ma):=
  ⟨fun Γ σ H ρ st P Q R G hq k=>WE.of (pe_listRange hc hg hm hg' hm' boot_list (pa_cons pe_w pa_nil he) hs hs2) (ha.use' R G hq.bind fun q st1 H1 ρ1 v e1 x1 R1 G1 r1 h1=>by
    split at h1
    · rename_i i
      split at h1
      · rename_i hi
        have ev:v=.int i:=r1
        subst ev
        refine ⟨i.toNat,by rw [Int.toNat_of_nonneg hi.1],by omega,new_at x1 R1 (repL_range _) fun H3 ρ3 z us=>k _ st1 H3 ρ3 z us ?_⟩
        unfold mLRN
        rw [e1]
        show (if 0<=i/\i<=1000000 then Res.ok _ st1 else .stuck)=_
        rw [if_pos hi]
      · exact h1.elim
    · exact h1.elim)⟩
@[simp] theorem mLRN_eq (ma:ME) (Γ:Gam) (st:Store):mLRN ma Γ st=(ma Γ st).bind fun p st1=>match p with
  | .int i=>if 0<=i/\i<=1000000 then .ok ((List.range i.toNat).map fun (k:Nat)=>.int (k:Int)) st1 else .stuck
  | _=>.stuck:=rfl
def mLenSet (ma:ME):ME:=fun Γ st=>(ma Γ st).bind fun p st1=>match (listOf st1 p).bind intsOf with
  | some ns=>if ns.length<=4000 then .ok (.int (metN ns).length) st1 else .stuck
  | none=>.stuck
@[simp] theorem mLenSet_eq (ma:ME) (Γ:Gam) (st:Store):mLenSet ma Γ st=(ma Γ st).bind fun p st1=>match (listOf st1 p).bind intsOf with
  | some ns=>if ns.length<=4000 then .ok (.int (metN ns).length) st1 else .stuck
  | none=>.stuck:=rfl
end
end Sm
namespace Sm
open PySem PySem.Spec L2
def callK (body:MS) (nl:Nat):FN:=fun ps st=>match body (ps.map some ++ List.replicate (nl - ps.length) none) st with
  | .rt v st'=>.ok v st'
  | .nx _ st'=>.ok .non st'
  | .exc x st'=>.exc x st'
  | _=>.stuck
section
variable {P:Program} {w:World} {K:PySem.W.Frag} {mg:Str->Option Value} {base:Heap}
theorem fun_okK {x qual:Str} {st:Stmt} {f:Addr} {fd:FuncData} {N ps:List Str} {k:Nat} {m:MS} (F:Fun K x qual st f fd) (S:FnScope N ps (defScope st))
    (hb:∀ (cdv:Value) (A:Around) (outer:List PySem.Env) (s:Shared) (H:Hp) (E:XK),Room k (A.deeper (PyProof.Rows.envOfC qual (defScope st) s.heap.objs.size f cdv))->SimB (cxD P w K mg base N qual (defScope st) f cdv A outer s H E) E (defBody st) m) :
    FnOk P w K mg base (CXD P w) (k + 1) f fd ps (spF mg ps.length (callK m N.length)):=by
  refine Fun.okD F S (fun vs H Q E h=>h.1) fun cdv A outer s H vs Q E hr hsp=>⟨_,pss_w,?_⟩
  obtain ⟨hl,ρ,st0,pvs,R,rl,hA⟩:=hsp
  refine (hb cdv A outer s H E hr).run _ (L2.start N vs) H ρ st0 _ R (start_env rl) ?_
  unfold callK at hA
  cases rr:m (pvs.map some ++ List.replicate (N.length - pvs.length) none) st0 with
  | rt v st1=>rw [rr] at hA; exact fun v H' ρ' x R' r=>hA H' ρ' x R' v r
  | nx Γ st1=>rw [rr] at hA; exact fun σ' H' ρ' x' R' G'=>hA H' ρ' x' R' .non rfl
  | bk Γ st1=>rw [rr] at hA; exact hA.elim
  | ct Γ st1=>rw [rr] at hA; exact hA.elim
  | stuck=>rw [rr] at hA; exact hA.elim
  | exc y st1=>rw [rr] at hA; exact hA
end
theorem fun_ok2K {P:Program} {w:World} {K:PySem.W.Frag} {mg:Str->Option Value} {base:Heap} {x qual:Str} {st:Stmt} {f:Addr} {fd:FuncData} {N ps:List Str} {k n nl:Nat} {m:MS} {FF:FN} (F:Fun K x qual st f fd) (S:FnScope N ps (defScope st)) (hn:ps.length=n) (hnl:N.length=nl) (hF:FF=callK m nl)
    (hb:∀ (cdv:Value) (A:Around) (outer:List PySem.Env) (s:Shared) (H:Hp) (E:XK),Room k (A.deeper (PyProof.Rows.envOfC qual (defScope st) s.heap.objs.size f cdv))->SimB (cxD P w K mg base N qual (defScope st) f cdv A outer s H E) E (defBody st) m) :
    FnOk P w K mg base (CXD P w) (k + 1) f fd ps (spF mg n FF):=by
  subst hn; subst hnl; subst hF
  exact fun_okK F S hb
end Sm
namespace Sm
open PySem PySem.Spec PyProof.Rows L2
section
variable {X:Cx} {E:XK} {pos:Pos} {a b:Expr} {ma mb:ME}
def mTR (ma:ME):ME:=fun Γ st=>(ma Γ st).bind fun p st1=>match p with
  | .int i=>if 0<=i/\i<=1000000 then .ok (.tup ((List.range i.toNat).map fun (k:Nat)=>.int (k:Int))) st1 else .stuck
  | _=>.stuck
theorem se_trange {p p' pos':Pos} (ha:SimE X E a ma) (hc:X.calm=true) (hg:Gl X "tuple") (hm:X.mg "tuple" = none) (hg':Gl X "range") (hm':X.mg "range" = none) (he:starEach [a] X.env=(false,eval a X.env) :: starEach [] X.env:=by rfl) (hs:starEach [a] X.env=[(false,eval a X.env)]:=by rfl)
    (hs2:starEach [.Call (.Name "range" p') [a] [] pos'] X.env=[(false,eval (.Call (.Name "range" p') [a] [] pos') X.env)]:=by rfl):SimE X E (.Call (.Name "tuple" p) [.Call (.Name "range" p') [a] [] pos'] [] pos) (mTR ma):=
  ⟨fun Γ σ H ρ st Q R G hq=>WE.of (pe_tupRange hc hg hm hg' hm' L2.boot_tuple (pa_cons pe_w pa_nil he) hs hs2) (ha.use' R G hq.bind fun q st1 H1 ρ1 v e1 x1 R1 G1 r1 h1=>by
    split at h1
    · rename_i i
      split at h1
      · rename_i hi
        have ev:v=.int i:=r1
        subst ev
        exact ⟨i.toNat,by rw [Int.toNat_of_nonneg hi.1],by omega,new_tup R1 h1 (repL_range _)⟩
      · exact h1.elim
    · exact h1.elim)⟩
@[simp] theorem mTR_eq (ma:ME) (Γ:Gam) (st:Store):mTR ma Γ st=(ma Γ st).bind fun p st1=>match p with
  | .int i=>if 0<=i/\i<=1000000 then .ok (.tup ((List.range i.toNat).map fun (k:Nat)=>.int (k:Int))) st1 else .stuck
  | _=>.stuck:=rfl
def mDic:ME:=fun _ st=>.ok .dic st
@[simp] theorem mDic_eq (Γ:Gam) (st:Store):mDic Γ st=.ok .dic st:=rfl
def mRevT (ma mb:ME):ME:=fun Γ st=>(ma Γ st).bind fun p st1=>(mb Γ st1).bind fun q st2=>match q,p with
  | .int i,.tup xs=>if i=-1 then .ok (.tup xs.reverse) st2 else .stuck
  | _,_=>.stuck
theorem se_revT {p2:Pos} (ha:SimE X E a ma) (hb:SimE X E b mb):SimE X E (.Subscript a (.Slice none none (some b) p2) pos) (mRevT ma mb):=
  ⟨fun Γ σ H ρ st Q R G hq=>WE.of (pe_revT pe_w pe_w) (ha.use' R G hq.bind fun p st1 H1 ρ1 v e1 x1 R1 G1 r1 h1=>hb.use' R1 G1 h1.bind fun q st2 H2 ρ2 u e2 x2 R2 G2 r2 h2=>by
    split at h2
    · rename_i i xs
      split at h2
      · rename_i hi
        subst hi
        have eu:u=.int (-1):=r2
        subst eu
        obtain ⟨c,vs,rfl,hc,nc,rc⟩:=r1.ext x2
        exact ⟨rfl,c,vs,rfl,SqT.of hc,new_tup R2 h2 rc.reverse⟩
      · exact h2.elim
    · exact h2.elim)⟩
@[simp] theorem mRevT_eq (ma mb:ME) (Γ:Gam) (st:Store):mRevT ma mb Γ st=(ma Γ st).bind fun p st1=>(mb Γ st1).bind fun q st2=>match q,p with
  | .int i,.tup xs=>if i=-1 then .ok (.tup xs.reverse) st2 else .stuck
  | _,_=>.stuck:=rfl
end
end Sm
namespace Sm
open PySem PySem.Spec L2
def mParts (m:ME):ME:=fun Γ st=>(m Γ st).bind fun p st1=>match p with
  | .str x=>if x = "make" then .ok (.int 3) st1 else if x = "lend" then .ok (.int 4) st1 else if x = "use" then .ok (.int 3) st1 else .stuck
  | _=>.stuck
section
variable {X:Cx} {E:XK} {pos:Pos} {e:Expr} {m:ME}
end
section
end
def pick3 (k1 k2 k3:Str) (p1 p2 p3:PV) (st4:Store):PV->Res PV
  | .str x=>if x=k1 then .ok p1 st4 else if x=k2 then .ok p2 st4 else if x=k3 then .ok p3 st4 else .stuck
  | _=>.stuck
def mDsp3 (k1 k2 k3:Str) (m1 m2 m3 mi:ME):ME:=fun Γ st=>(m1 Γ st).bind fun p1 st1=>(m2 Γ st1).bind fun p2 st2=>(m3 Γ st2).bind fun p3 st3=>(mi Γ st3).bind fun q st4=>pick3 k1 k2 k3 p1 p2 p3 st4 q
section
variable {X:Cx} {E:XK} {pos dpos:Pos} {e1 e2 e3 i:Expr} {m1 m2 m3 mi:ME} {k1 k2 k3:Str} {j1 j2 j3:Nat} {q1 q2 q3:Pos}
end
def mRaiseI (x name:Str) (m:ME):MS:=fun Γ st=>(m Γ st).sbind fun p st1=>.exc ⟨x,some (name,p)⟩ st1
section
variable {X:Cx} {E:XK} {pos:Pos} {e:Expr} {m:ME}
end
@[simp] theorem mParts_eq (m:ME) (Γ:Gam) (st:Store):mParts m Γ st=(m Γ st).bind fun p st1=>(match p with
  | .str x=>if x = "make" then .ok (.int 3) st1 else if x = "lend" then .ok (.int 4) st1 else if x = "use" then .ok (.int 3) st1 else .stuck
  | _=>.stuck):=rfl
@[simp] theorem mDsp3_eq (k1 k2 k3:Str) (m1 m2 m3 mi:ME) (Γ:Gam) (st:Store):mDsp3 k1 k2 k3 m1 m2 m3 mi Γ st=(m1 Γ st).bind fun p1 st1=>(m2 Γ st1).bind fun p2 st2=>(m3 Γ st2).bind fun p3 st3=>(mi Γ st3).bind fun q st4=>pick3 k1 k2 k3 p1 p2 p3 st4 q:=rfl
@[simp] theorem pick3_str (k1 k2 k3:Str) (p1 p2 p3:PV) (st4:Store) (x:Str):pick3 k1 k2 k3 p1 p2 p3 st4 (.str x)=if x=k1 then .ok p1 st4 else if x=k2 then .ok p2 st4 else if x=k3 then .ok p3 st4 else .stuck:=rfl
@[simp] theorem mRaiseI_eq (x name:Str) (m:ME) (Γ:Gam) (st:Store):mRaiseI x name m Γ st=(m Γ st).sbind fun p st1=>.exc ⟨x,some (name,p)⟩ st1:=rfl
end Sm
namespace Sm
open PySem PySem.Spec L2
structure AtS (K:PySem.W.Frag) (mg:Str->Option Value) (name:Str) (st:Stmt) (ps:List Str) (f:Addr) (fd:FuncData):Prop where
  F:Fun K name name st f fd
  m:mg name=some (.ref f)
  b:Binds K fd ps []
theorem atS_mk {K:PySem.W.Frag} {mg:Str->Option Value} {h:Heap} {name:Str} {st:Stmt} {ps:List Str} {f:Addr} {oc:Value} {od an:Option Addr} {osl:Array (Option Value)} {kV doc pm cdv ct:Value} (X:K.In h) (G:h.Ns mainGlobals mg)
    (a:PySem.W.nsIn K mainGlobals name=some (some (.ref f))) (l:K.lookup f=some ⟨oc,od,.func (PySem.W.fnOf name name (defArgs st) (defBody st) (defScope st) .none kV doc pm an cdv ct),osl⟩) (c:PySem.W.codeIn K cdv name=true) (k:PySem.W.keepIn K (.ref f)=true)
    (b:∀ (kV doc pm:Value) (an:Option Addr) (cdv ct:Value) (us:List Value),us.length=ps.length->bindArgs (PySem.W.fnOf name name (defArgs st) (defBody st) (defScope st) .none kV doc pm an cdv ct) ⟨us,[]⟩=pure (ps.zip us)) :
    AtS K mg name st ps f (PySem.W.fnOf name name (defArgs st) (defBody st) (defScope st) .none kV doc pm an cdv ct):=
  have F:=fun_mk (st:=st) l c k
  ⟨F,PySem.W.mg_of X G a,F.binds b⟩
theorem AtS.def {P:Program} {w:World} {K:PySem.W.Frag} {mg:Str->Option Value} {base:Heap} {name:Str} {st:Stmt} {ps:List Str} {f:Addr} {fd:FuncData} {k n:Nat} {F:FN} (a:AtS K mg name st ps f fd) (hn:ps.length=n) (G:FnOk P w K mg base (CXD P w) k f fd ps (spF mg n F)):DefS P w K mg base k name n F:=
  ⟨f,fd,ps,G,a.m,a.F.kp,a.b,hn⟩
def noL (K:PySem.W.Frag):Bool:=K.all fun p=>match p.2.data with
  | .seq _ _=>(match p.2.cls with
    | .type n=>!(n == ("list" : Str))
    | _=>true)
  | _=>true
theorem lookup_mem {K:PySem.W.Frag} {a:Addr} {o:Obj} (h:K.lookup a=some o):(a,o) ∈ K:=by
  induction K with
  | nil=>cases h
  | cons p K ih=>
    obtain ⟨b,u⟩:=p
    rw [List.lookup_cons] at h
    cases e:a == b with
    | true=>
      rw [e] at h
      have:a=b:=by simpa using e
      subst this
      cases h
      exact List.mem_cons_self
    | false=>
      rw [e] at h
      exact List.mem_cons_of_mem _ (ih h)
theorem noL_no {K:PySem.W.Frag} {a:Addr} {o:Obj} {its:Array Value} {n:Nat} (hL:noL K=true) (h:K.lookup a=some o) (hc:o.cls=.type "list") (hd:o.data=.seq its n):False:=by
  have:=List.all_eq_true.mp hL _ (lookup_mem h)
  simp [hc,hd] at this
theorem repL_ints {H:Hp} {ρ:Tk}:∀ ns:List Int,RepL H ρ (ns.map .int) (ns.map V.int)
  | []=>rfl
  | n :: ns=>⟨_,_,rfl,rfl,repL_ints ns⟩
theorem rel_nil (H:Hp):Rel H Tk.nil []:=⟨rfl,List.nodup_nil,fun a h=>(by cases h),fun a h=>(by cases h),fun i a c h=>(by simp [Tk.nil] at h)⟩
def spLawS (K:PySem.W.Frag):Sp:=fun vs H Q _=>∃ (a:Addr) (ns:List Int),vs=[.ref a]/\SqL K H a (ns.map V.int)/\ns.length<=63/\∀ H',Q (.bl true) H'
theorem law_imp {P:Program} {w:World} {K:PySem.W.Frag} {mg:Str->Option Value} {base:Heap} {CX:CXT} {k:Nat} {f:Addr} {fd:FuncData} {ps:List Str} {FL:FN} (hL:noL K=true) (F:FnOk P w K mg base CX k f fd ps (spF mg 1 FL)) (hlaw:∀ ns:List Int,ns.length<=63->∃ st',FL [.fro (ns.map .int)] []=.ok (.bl true) st'):FnOk P w K mg base CX k f fd ps (spLawS K):=F.imp fun vs H Q E ⟨a,ns,e,hS,hl,hQ⟩=>by
  subst e
  obtain ⟨st',hF⟩:=hlaw ns hl
  have hR:Rd H a (.lst (ns.map V.int)):=by
    rcases hS with h | ⟨o,its,n,h1,h2,h3,h4,_⟩
    · exact h
    · exact (noL_no hL h1 h2 h4).elim
  refine ⟨rfl,Tk.nil,[],[.fro (ns.map .int)],rel_nil H,⟨_,_,rfl,⟨a,_,rfl,hR,Tk.not_nil a,repL_ints ns⟩,rfl⟩,?_⟩
  rw [hF]
  intro H' ρ' x R v r
  have e:v=.bl true:=r
  subst e
  exact hQ H'
theorem cxd_none {P:Program} {w:World} {H:Hp} {s:Shared} {e:Value} {s':Shared} (h:CXD P w [] H s (fun _ _ _=>False) e s'):False:=by
  obtain ⟨_,_,_,_,_,_,_,_,_,z⟩:=h
  exact z
theorem walkS {l:PySem.W.OpenLaw} {k:Nat} {q:Program} {loose:List Str} {XP:(Str->Option Value)->Heap->Prop} {YP:World->Heap->Prop} {d:DefRec} {K:Params->PySem.W.Frag} (hn:l.most=some 63) (hr:Room k callerA) (hdf:d.params.defaults=[])
    (hY:∀ (w:World) (h:Heap),YP w h->(K w.params).In h)
    (F:∀ (w:World) (mg:Str->Option Value) (fa:Addr) (h:Heap),(K w.params).In h->h.Ns mainGlobals mg->mg d.name=some (.ref fa) ->
      ∃ fd:FuncData,(∀ (s:Shared) (u:Value),BindsTo s fd ⟨[u],[]⟩ [("script",u)])/\∀ base:Heap,(K w.params).In base->base.Ns mainGlobals mg->FnOk l.prog w (K w.params) mg base (CXD l.prog w) k fa fd ["script"] (spLawS (K w.params))) :
    PySem.W.WalkO q loose XP YP l.row.toRowW d [] (fun f vs=>PySem.call f vs):=
  L2.walk_of (n:=63) (k:=k) (x := "script") (CX:=fun w=>CXD l.prog w) (sp:=fun w=>spLawS (K w.params)) hn (by decide) hdf hr hY F (fun _ _ a ns hl _ hS=>⟨a,ns,rfl,hS,hl,fun _=>rfl⟩) fun _ _ _ _ _ z=>cxd_none z
end Sm
namespace Lw
open PySem PySem.Spec L2 Sm
def top (i:Nat):Stmt:=PySem.Challenge.pw_lendwharf_k30_views_refused.main.body.getD i (.Pass ⟨0,0,0,0⟩)
abbrev s_is_whole:Stmt:=top 17
abbrev s_is_between:Stmt:=top 18
abbrev s_is_rising:Stmt:=top 19
abbrev s_is_row:Stmt:=top 22
abbrev s_is_table:Stmt:=top 23
abbrev s_bare:Stmt:=top 24
abbrev s_is_house:Stmt:=top 25
abbrev s_rights:Stmt:=top 26
abbrev s_stock:Stmt:=top 27
abbrev s_need_as_many_houses:Stmt:=top 28
abbrev s_is_row_within:Stmt:=top 29
abbrev s_is_within:Stmt:=top 30
abbrev s_raised:Stmt:=top 32
abbrev s_made_some:Stmt:=top 34
abbrev s_lent_or_used_some:Stmt:=top 35
abbrev s_was_lent_some:Stmt:=top 36
abbrev s_has_root:Stmt:=top 37
abbrev s_rooted_houses:Stmt:=top 38
abbrev s_rootless_houses:Stmt:=top 39
abbrev s_comes_about:Stmt:=top 40
abbrev s_does_come_about:Stmt:=top 41
abbrev s_need_comes_about:Stmt:=top 42
abbrev s_are_houses:Stmt:=top 43
abbrev s_is_pool:Stmt:=top 45
abbrev s_need_pool:Stmt:=top 46
abbrev s_rights_of_pool:Stmt:=top 47
abbrev s_least_stock:Stmt:=top 48
abbrev s_poorest_world:Stmt:=top 49
abbrev s_may_use:Stmt:=top 50
abbrev s_is_world:Stmt:=top 51
abbrev s_shows_must:Stmt:=top 52
abbrev s__law_b_draw:Stmt:=top 54
abbrev s__law_b_rights:Stmt:=top 55
abbrev s__law_b_few:Stmt:=top 56
abbrev s__law_b_sparse:Stmt:=top 57
abbrev s__law_b_deeds:Stmt:=top 58
abbrev s__law_b_tuples:Stmt:=top 59
abbrev s__law_b_comes:Stmt:=top 60
abbrev s__law_b_pool:Stmt:=top 61
abbrev s__law_b_asked:Stmt:=top 62
abbrev s__law_b_told:Stmt:=top 63
abbrev s__law_b_less:Stmt:=top 64
abbrev s__law_b_no_pool:Stmt:=top 65
abbrev s__law_b_is_pool:Stmt:=top 66
abbrev s_law:Stmt:=top 67
structure Txt (mg:Str->Option Value):Prop where
  b_all:mg "all" = none
  b_any:mg "any" = none
  b_bool:mg "bool" = none
  b_enumerate:mg "enumerate" = none
  b_int:mg "int" = none
  b_isinstance:mg "isinstance" = none
  b_len:mg "len" = none
  b_list:mg "list" = none
  b_min:mg "min" = none
  b_range:mg "range" = none
  b_sum:mg "sum" = none
  b_tuple:mg "tuple" = none
  b_zip:mg "zip" = none
  c_MOST_HOUSES:∃ t,mg "MOST_HOUSES" = some (.int 8 t)
section
variable {P:Program} {w:World} {K:PySem.W.Frag} {mg:Str->Option Value} {base:Heap}
end
section
variable {P:Program} {w:World} {K:PySem.W.Frag} {mg:Str->Option Value} {base:Heap}
def m_is_whole:MS:=(mRet (mAnd (mIsI "int" (mVar 0)) (mNot (mIsI "bool" (mVar 0)))))
def F_is_whole:FN:=callF m_is_whole 1
theorem sc_is_whole:FnScope ["thing"] ["thing"] (defScope s_is_whole):=⟨rfl,rfl,rfl,by decide +kernel,rfl,by decide +kernel,by decide +kernel⟩
theorem ok_is_whole {f:Addr} {fd:FuncData} (F:Fun K "is_whole" "is_whole" s_is_whole f fd) (T:Txt mg)   : FnOk P w K mg base (CXD P w) 1 f fd ["thing"] (spF mg 1 F_is_whole):=by
  refine fun_ok2 (k:=0) (m:=m_is_whole) F sc_is_whole rfl rfl rfl fun cdv A outer s H E hr=>?_
  exact (sb_one (ss_ret (se_and (se_isi (T := "int") (by decide) (se_var 0) rfl T.b_isinstance rfl T.b_int boot_int) (se_one (se_not (se_isi (T := "bool") (by decide) (se_var 0) rfl T.b_isinstance rfl T.b_bool boot_bool))))))
def m_is_between:MS:=(mRet (mAnd (mCallF 1 F_is_whole (mCons (mVar 0) mNil)) (mChain (oI fun a b=>.bl (decide (a<=b))) (oI fun a b=>.bl (decide (a<=b))) (mVar 1) (mVar 0) (mVar 2))))
def F_is_between:FN:=callF m_is_between 3
theorem sc_is_between:FnScope ["thing", "least", "most"] ["thing", "least", "most"] (defScope s_is_between):=⟨rfl,rfl,rfl,by decide +kernel,rfl,by decide +kernel,by decide +kernel⟩
theorem ok_is_between {f:Addr} {fd:FuncData} (F:Fun K "is_between" "is_between" s_is_between f fd) (T:Txt mg)  (D_is_whole:DefS P w K mg base 1 "is_whole" 1 F_is_whole):FnOk P w K mg base (CXD P w) 2 f fd ["thing", "least", "most"] (spF mg 3 F_is_between):=by
  refine fun_ok2 (k:=1) (m:=m_is_between) F sc_is_between rfl rfl rfl fun cdv A outer s H E hr=>?_
  exact (sb_one (ss_ret (se_and (se_call D_is_whole (hr.mono (by decide)) pass_onD rfl (sa_cons (se_var 0) sa_nil)) (se_one (se_chain os_le os_le (se_var 1) (se_var 0) (se_var 2))))))
def e_is_rising_1:ME:=(mOp oLt (mVar 0) (mVar 1))
def m_is_rising:MS:=(mRet (mCall (cBls fun ns=>.bl (ns.all id)) (mCons (mVal (mCompN [none,none] (gaTup (gaCons (gaName 0) (gaCons (gaName 1) gaNil))) (mZip (mCons (mVar 0) (mCons (mSl (mVar 0) (mPart (mC (.int 1))) mNoPart) mNil))) mTrue e_is_rising_1)) mNil)))
def F_is_rising:FN:=callF m_is_rising 1
theorem sc_is_rising:FnScope ["things"] ["things"] (defScope s_is_rising):=⟨rfl,rfl,rfl,by decide +kernel,rfl,by decide +kernel,by decide +kernel⟩
theorem ok_is_rising {f:Addr} {fd:FuncData} (F:Fun K "is_rising" "is_rising" s_is_rising f fd) (T:Txt mg)   : FnOk P w K mg base (CXD P w) 1 f fd ["things"] (spF mg 1 F_is_rising):=by
  refine fun_ok2 (k:=0) (m:=m_is_rising) F sc_is_rising rfl rfl rfl fun cdv A outer s H E hr=>?_
  exact (sb_one (ss_ret (se_callB (cs_all rfl) rfl T.b_all boot_all (sa_cons (se_val (sn_comp [none,none] ["one", "other"] rfl (si_zip rfl T.b_zip (sa_cons (se_var 0) (sa_cons (se_slice (se_var 0) (so_some se_int) so_none) sa_nil))) (fun _ _ _ _ _=>(sg_tup rfl (sgs_cons (sg_name (i:=0) (show (["one", "other"]:List Str).Nodup by decide +kernel)) (sgs_cons (sg_name (i:=1) (show (["one", "other"]:List Str).Nodup by decide +kernel)) sgs_nil)))) (fun _ _ _ _ _=>(se_cmp (os_lt hr.units) (se_var 0) (se_var 1))) (fun _ _ _ _ _=>sts_nil) (free_tup (free_cons (free_cons free_nil))))) sa_nil))))
def e_is_row_1:ME:=(mAnd (mCallF 1 F_is_whole (mCons (mVar 0) mNil)) (mOp (oI fun a b=>.bl (decide (b<=a))) (mVar 0) (mC (.int 0))))
def m_is_row : MS := (mSeqS (mIfS (tOrM (tNotM (toB (mIsI "tuple" (mVar 0)))) (toB (mOp oNe (mCall cLen (mCons (mVar 0) mNil)) (mOp oAdd (mVar 1) (mC (.int 1)))))) (mRet (mC (.bl false))) mNext)
    (mRet (mCall (cBls fun ns=>.bl (ns.all id)) (mCons (mVal (mCompN [none] (gaName 0) (mSeq (mVar 0)) mTrue e_is_row_1)) mNil))))
def F_is_row:FN:=callF m_is_row 2
theorem sc_is_row:FnScope ["thing", "n"] ["thing", "n"] (defScope s_is_row):=⟨rfl,rfl,rfl,by decide +kernel,rfl,by decide +kernel,by decide +kernel⟩
theorem ok_is_row {f:Addr} {fd:FuncData} (F:Fun K "is_row" "is_row" s_is_row f fd) (T:Txt mg)  (D_is_whole:DefS P w K mg base 1 "is_whole" 1 F_is_whole):FnOk P w K mg base (CXD P w) 2 f fd ["thing", "n"] (spF mg 2 F_is_row):=by
  refine fun_ok2 (k:=1) (m:=m_is_row) F sc_is_row rfl rfl rfl fun cdv A outer s H E hr=>?_
  exact (sb_cons (ss_if (SimW.t (sw_or (st_not (st_val (se_isi (T := "tuple") (by decide) (se_var 0) rfl T.b_isinstance rfl T.b_tuple boot_tuple))) (sw_or1 (st_cmp (os_ne hr.units) (se_callB cs_len rfl T.b_len PySem.boot_len (sa_cons (se_var 0) sa_nil)) (se_op os_add (se_var 1) se_int))))) (sb_one (ss_ret se_bl)) sb_nil)
    (sb_one (ss_ret (se_callB (cs_all rfl) rfl T.b_all boot_all (sa_cons (se_val (sn_comp [none] ["part"] rfl (si_seq (se_var 0)) (fun _ _ _ _ _=>(sg_name (i:=0) (show (["part"]:List Str).Nodup by decide +kernel))) (fun _ _ _ _ _=>(se_and (se_call D_is_whole (hr.mono (by decide)) pass00D rfl (sa_cons (se_var 0) sa_nil)) (se_one (se_cmp os_ge (se_var 0) se_int)))) (fun _ _ _ _ _=>sts_nil) free_name)) sa_nil)))))
def e_is_table_1:ME:=(mCallF 2 F_is_row (mCons (mVar 0) (mCons (mCall cLen (mCons (mVar 1) mNil)) mNil)))
def m_is_table : MS := (mSeqS (mIfS (tOrM (tNotM (toB (mIsI "tuple" (mVar 0)))) (tNotM (toB (mChain (oI fun a b => .bl (decide (a <= b))) (oI fun a b => .bl (decide (a <= b))) (mC (.int 1)) (mCall cLen (mCons (mVar 0) mNil)) (mC (.int 8)))))) (mRet (mC (.bl false))) mNext)
    (mRet (mCall (cBls fun ns=>.bl (ns.all id)) (mCons (mVal (mCompN [none,some 0] (gaName 0) (mSeq (mVar 0)) mTrue e_is_table_1)) mNil))))
def F_is_table:FN:=callF m_is_table 1
theorem sc_is_table:FnScope ["thing"] ["thing"] (defScope s_is_table):=⟨rfl,rfl,rfl,by decide +kernel,rfl,by decide +kernel,by decide +kernel⟩
theorem ok_is_table {f:Addr} {fd:FuncData} (F:Fun K "is_table" "is_table" s_is_table f fd) (T:Txt mg)  (D_is_row:DefS P w K mg base 2 "is_row" 2 F_is_row):FnOk P w K mg base (CXD P w) 3 f fd ["thing"] (spF mg 1 F_is_table):=by
  refine fun_ok2 (k:=2) (m:=m_is_table) F sc_is_table rfl rfl rfl fun cdv A outer s H E hr=>?_
  exact (sb_cons (ss_if (SimW.t (sw_or (st_not (st_val (se_isi (T := "tuple") (by decide) (se_var 0) rfl T.b_isinstance rfl T.b_tuple boot_tuple))) (sw_or1 (st_not (st_chain os_le os_le se_int (se_callB cs_len rfl T.b_len PySem.boot_len (sa_cons (se_var 0) sa_nil)) (se_gint rfl T.c_MOST_HOUSES.choose_spec)))))) (sb_one (ss_ret se_bl)) sb_nil)
    (sb_one (ss_ret (se_callB (cs_all rfl) rfl T.b_all boot_all (sa_cons (se_val (sn_comp [none,some 0] ["row", "thing"] rfl (si_seq (se_var 0)) (fun _ _ _ _ _=>(sg_name (i:=0) (show (["row", "thing"]:List Str).Nodup by decide +kernel))) (fun _ _ _ _ _=>(se_call D_is_row (hr.mono (by decide)) pass00D rfl (sa_cons (se_var 0) (sa_cons (se_callB cs_len rfl T.b_len PySem.boot_len (sa_cons (se_var 1) sa_nil)) sa_nil)))) (fun _ _ _ _ _=>sts_nil) free_name)) sa_nil)))))
def m_bare : MS := (mSeqS (mSet 1 (mOp oMul (mTup (mCons (mC (.int 0)) mNil)) (mOp oAdd (mVar 0) (mC (.int 1)))))
    (mRet (mOp oMul (mTup (mCons (mVar 1) mNil)) (mVar 0))))
def F_bare:FN:=callF m_bare 2
theorem sc_bare:FnScope ["n", "row"] ["n"] (defScope s_bare):=⟨rfl,rfl,rfl,by decide +kernel,rfl,by decide +kernel,by decide +kernel⟩
theorem ok_bare {f:Addr} {fd:FuncData} (F:Fun K "bare" "bare" s_bare f fd) (T:Txt mg)   : FnOk P w K mg base (CXD P w) 1 f fd ["n"] (spF mg 1 F_bare):=by
  refine fun_ok2 (k:=0) (m:=m_bare) F sc_bare rfl rfl rfl fun cdv A outer s H E hr=>?_
  exact (sb_cons (ss_set 1 sc_bare.nd (se_op os_mul (se_tup (sa_cons se_int sa_nil)) (se_op os_add (se_var 0) se_int)))
    (sb_one (ss_ret (se_op os_mul (se_tup (sa_cons (se_var 1) sa_nil)) (se_var 0)))))
def m_is_house:MS:=(mRet (mCallF 3 F_is_between (mCons (mVar 1) (mCons (mC (.int 0)) (mCons (mOp (oI fun a b=>.int (a - b)) (mCall cLen (mCons (mVar 0) mNil)) (mC (.int 1))) mNil)))))
def F_is_house:FN:=callF m_is_house 2
theorem sc_is_house:FnScope ["table", "thing"] ["table", "thing"] (defScope s_is_house):=⟨rfl,rfl,rfl,by decide +kernel,rfl,by decide +kernel,by decide +kernel⟩
theorem ok_is_house {f:Addr} {fd:FuncData} (F:Fun K "is_house" "is_house" s_is_house f fd) (T:Txt mg)  (D_is_between:DefS P w K mg base 2 "is_between" 3 F_is_between):FnOk P w K mg base (CXD P w) 3 f fd ["table", "thing"] (spF mg 2 F_is_house):=by
  refine fun_ok2 (k:=2) (m:=m_is_house) F sc_is_house rfl rfl rfl fun cdv A outer s H E hr=>?_
  exact (sb_one (ss_ret (se_call D_is_between (hr.mono (by decide)) pass_onD rfl (sa_cons (se_var 1) (sa_cons se_int (sa_cons (se_op os_sub (se_callB cs_len rfl T.b_len PySem.boot_len (sa_cons (se_var 0) sa_nil)) se_int) sa_nil))))))
def e_rights_1:ME:=(mOp oIx (mVar 0) (mVar 1))
def m_rights : MS := (mSeqS (mIfS (tNotM (toB (mCallF 2 F_is_house (mCons (mVar 0) (mCons (mVar 1) mNil))))) (mRaise "NoHouse" (mC (.str "no house of this table"))) mNext)
    (mSeqS (mSet 2 (mCall (cInts fun ns=>some (.int ns.sum)) (mCons (mVal (mCompN [none,some 1] (gaName 0) (mSeq (mVar 0)) mTrue e_rights_1)) mNil)))
    (mSeqS (mSet 3 (mOp oIx (mVar 0) (mVar 1)))
    (mSeqS (mSet 4 (mOp (oI fun a b=>.int (a - b)) (mCall (cInts fun ns=>some (.int ns.sum)) (mCons (mVar 3) mNil)) (mOp oIx (mVar 3) (mVar 1))))
    (mRet (mOp (oI fun a b=>.int (a - b)) (mVar 2) (mVar 4)))))))
def F_rights:FN:=callF m_rights 5
theorem sc_rights:FnScope ["table", "house", "gained", "own", "spent"] ["table", "house"] (defScope s_rights):=⟨rfl,rfl,rfl,by decide +kernel,rfl,by decide +kernel,by decide +kernel⟩
theorem ok_rights {f:Addr} {fd:FuncData} (F:Fun K "rights" "rights" s_rights f fd) (T:Txt mg) (C_NoHouse:∃ C,mg "NoHouse" = some (.ref C)/\PySem.W.excIn K C bmVE "ValueError.__new__" = true) (D_is_house:DefS P w K mg base 3 "is_house" 2 F_is_house):FnOk P w K mg base (CXD P w) 4 f fd ["table", "house"] (spF mg 2 F_rights):=by
  refine fun_ok2 (k:=3) (m:=m_rights) F sc_rights rfl rfl rfl fun cdv A outer s H E hr=>?_
  exact (sb_cons (ss_if (st_not (st_val (se_call D_is_house (hr.mono (by decide)) pass_onD rfl (sa_cons (se_var 0) (sa_cons (se_var 1) sa_nil))))) (sb_one (ss_raise rfl raiseDok rfl C_NoHouse.choose_spec.1 C_NoHouse.choose_spec.2 se_str)) sb_nil)
    (sb_cons (ss_set 2 sc_rights.nd (se_callB (cs_sum rfl) rfl T.b_sum boot_sum (sa_cons (se_val (sn_comp [none,some 1] ["row", "house"] rfl (si_seq (se_var 0)) (fun _ _ _ _ _=>(sg_name (i:=0) (show (["row", "house"]:List Str).Nodup by decide +kernel))) (fun _ _ _ _ _=>(se_ix (se_var 0) (se_var 1))) (fun _ _ _ _ _=>sts_nil) free_name)) sa_nil)))
    (sb_cons (ss_set 3 sc_rights.nd (se_ix (se_var 0) (se_var 1)))
    (sb_cons (ss_set 4 sc_rights.nd (se_op os_sub (se_callB (cs_sum rfl) rfl T.b_sum boot_sum (sa_cons (se_var 3) sa_nil)) (se_ix (se_var 3) (se_var 1))))
    (sb_one (ss_ret (se_op os_sub (se_var 2) (se_var 4))))))))
def e_stock_1:ME:=(mOp oIx (mVar 1) (mVar 0))
def e_stock_2:ME:=(mOp oIx (mVar 0) (mNeg (mC (.int 1))))
def m_stock : MS := (mSeqS (mSet 1 (mCall (cInts fun ns => some (.int ns.sum)) (mCons (mVal (mCompN [none, none] (gaTup (gaCons (gaName 0) (gaCons (gaName 1) gaNil))) (mEnum (mCons (mVar 0) mNil)) mTrue e_stock_1)) mNil)))
    (mSeqS (mSet 2 (mCall (cInts fun ns=>some (.int ns.sum)) (mCons (mVal (mCompN [none] (gaName 0) (mSeq (mVar 0)) mTrue e_stock_2)) mNil)))
    (mRet (mOp (oI fun a b=>.int (a - b)) (mVar 1) (mVar 2)))))
def F_stock:FN:=callF m_stock 3
theorem sc_stock:FnScope ["table", "made", "used"] ["table"] (defScope s_stock):=⟨rfl,rfl,rfl,by decide +kernel,rfl,by decide +kernel,by decide +kernel⟩
theorem ok_stock {f:Addr} {fd:FuncData} (F:Fun K "stock" "stock" s_stock f fd) (T:Txt mg)   : FnOk P w K mg base (CXD P w) 1 f fd ["table"] (spF mg 1 F_stock):=by
  refine fun_ok2 (k:=0) (m:=m_stock) F sc_stock rfl rfl rfl fun cdv A outer s H E hr=>?_
  exact (sb_cons (ss_set 1 sc_stock.nd (se_callB (cs_sum rfl) rfl T.b_sum boot_sum (sa_cons (se_val (sn_comp [none,none] ["house", "row"] rfl (si_enum rfl T.b_enumerate (sa_cons (se_var 0) sa_nil)) (fun _ _ _ _ _=>(sg_tup rfl (sgs_cons (sg_name (i:=0) (show (["house", "row"]:List Str).Nodup by decide +kernel)) (sgs_cons (sg_name (i:=1) (show (["house", "row"]:List Str).Nodup by decide +kernel)) sgs_nil)))) (fun _ _ _ _ _=>(se_ix (se_var 1) (se_var 0))) (fun _ _ _ _ _=>sts_nil) (free_tup (free_cons (free_cons free_nil))))) sa_nil)))
    (sb_cons (ss_set 2 sc_stock.nd (se_callB (cs_sum rfl) rfl T.b_sum boot_sum (sa_cons (se_val (sn_comp [none] ["row"] rfl (si_seq (se_var 0)) (fun _ _ _ _ _=>(sg_name (i:=0) (show (["row"]:List Str).Nodup by decide +kernel))) (fun _ _ _ _ _=>(se_ix (se_var 0) (se_neg se_int))) (fun _ _ _ _ _=>sts_nil) free_name)) sa_nil)))
    (sb_one (ss_ret (se_op os_sub (se_var 1) (se_var 2))))))
def m_need_as_many_houses:MS:=(mIfS (toB (mOp oNe (mCall cLen (mCons (mVar 0) mNil)) (mCall cLen (mCons (mVar 1) mNil)))) (mRaise "NoTable" (mC (.str "the tables have unlike numbers of houses"))) mNext)
def F_need_as_many_houses:FN:=callF m_need_as_many_houses 2
theorem sc_need_as_many_houses:FnScope ["one", "other"] ["one", "other"] (defScope s_need_as_many_houses):=⟨rfl,rfl,rfl,by decide +kernel,rfl,by decide +kernel,by decide +kernel⟩
theorem ok_need_as_many_houses {f:Addr} {fd:FuncData} (F:Fun K "need_as_many_houses" "need_as_many_houses" s_need_as_many_houses f fd) (T:Txt mg) (C_NoTable:∃ C,mg "NoTable" = some (.ref C)/\PySem.W.excIn K C bmVE "ValueError.__new__" = true)  : FnOk P w K mg base (CXD P w) 1 f fd ["one", "other"] (spF mg 2 F_need_as_many_houses):=by
  refine fun_ok2 (k:=0) (m:=m_need_as_many_houses) F sc_need_as_many_houses rfl rfl rfl fun cdv A outer s H E hr=>?_
  exact (sb_one (ss_if (st_cmp (os_ne hr.units) (se_callB cs_len rfl T.b_len PySem.boot_len (sa_cons (se_var 0) sa_nil)) (se_callB cs_len rfl T.b_len PySem.boot_len (sa_cons (se_var 1) sa_nil))) (sb_one (ss_raise rfl raiseDok rfl C_NoTable.choose_spec.1 C_NoTable.choose_spec.2 se_str)) sb_nil))
def e_is_row_within_1:ME:=(mOp (oI fun a b=>.bl (decide (a<=b))) (mVar 0) (mVar 1))
def m_is_row_within:MS:=(mRet (mCall (cBls fun ns=>.bl (ns.all id)) (mCons (mVal (mCompN [none,none] (gaTup (gaCons (gaName 0) (gaCons (gaName 1) gaNil))) (mZip (mCons (mVar 0) (mCons (mVar 1) mNil))) mTrue e_is_row_within_1)) mNil)))
def F_is_row_within:FN:=callF m_is_row_within 2
theorem sc_is_row_within:FnScope ["one", "other"] ["one", "other"] (defScope s_is_row_within):=⟨rfl,rfl,rfl,by decide +kernel,rfl,by decide +kernel,by decide +kernel⟩
theorem ok_is_row_within {f:Addr} {fd:FuncData} (F:Fun K "is_row_within" "is_row_within" s_is_row_within f fd) (T:Txt mg)   : FnOk P w K mg base (CXD P w) 1 f fd ["one", "other"] (spF mg 2 F_is_row_within):=by
  refine fun_ok2 (k:=0) (m:=m_is_row_within) F sc_is_row_within rfl rfl rfl fun cdv A outer s H E hr=>?_
  exact (sb_one (ss_ret (se_callB (cs_all rfl) rfl T.b_all boot_all (sa_cons (se_val (sn_comp [none,none] ["mine", "its"] rfl (si_zip rfl T.b_zip (sa_cons (se_var 0) (sa_cons (se_var 1) sa_nil))) (fun _ _ _ _ _=>(sg_tup rfl (sgs_cons (sg_name (i:=0) (show (["mine", "its"]:List Str).Nodup by decide +kernel)) (sgs_cons (sg_name (i:=1) (show (["mine", "its"]:List Str).Nodup by decide +kernel)) sgs_nil)))) (fun _ _ _ _ _=>(se_cmp os_le (se_var 0) (se_var 1))) (fun _ _ _ _ _=>sts_nil) (free_tup (free_cons (free_cons free_nil))))) sa_nil))))
def e_is_within_1:ME:=(mCallF 2 F_is_row_within (mCons (mVar 0) (mCons (mVar 1) mNil)))
def m_is_within : MS := (mSeqS (mExpr (mCallF 2 F_need_as_many_houses (mCons (mVar 0) (mCons (mVar 1) mNil))))
    (mRet (mCall (cBls fun ns=>.bl (ns.all id)) (mCons (mVal (mCompN [none,none] (gaTup (gaCons (gaName 0) (gaCons (gaName 1) gaNil))) (mZip (mCons (mVar 0) (mCons (mVar 1) mNil))) mTrue e_is_within_1)) mNil))))
def F_is_within:FN:=callF m_is_within 2
theorem sc_is_within:FnScope ["one", "other"] ["one", "other"] (defScope s_is_within):=⟨rfl,rfl,rfl,by decide +kernel,rfl,by decide +kernel,by decide +kernel⟩
theorem ok_is_within {f:Addr} {fd:FuncData} (F:Fun K "is_within" "is_within" s_is_within f fd) (T:Txt mg)  (D_need_as_many_houses:DefS P w K mg base 1 "need_as_many_houses" 2 F_need_as_many_houses) (D_is_row_within:DefS P w K mg base 1 "is_row_within" 2 F_is_row_within):FnOk P w K mg base (CXD P w) 2 f fd ["one", "other"] (spF mg 2 F_is_within):=by
  refine fun_ok2 (k:=1) (m:=m_is_within) F sc_is_within rfl rfl rfl fun cdv A outer s H E hr=>?_
  exact (sb_cons (ss_expr (se_call D_need_as_many_houses (hr.mono (by decide)) pass_onD rfl (sa_cons (se_var 0) (sa_cons (se_var 1) sa_nil))))
    (sb_one (ss_ret (se_callB (cs_all rfl) rfl T.b_all boot_all (sa_cons (se_val (sn_comp [none,none] ["mine", "its"] rfl (si_zip rfl T.b_zip (sa_cons (se_var 0) (sa_cons (se_var 1) sa_nil))) (fun _ _ _ _ _=>(sg_tup rfl (sgs_cons (sg_name (i:=0) (show (["mine", "its"]:List Str).Nodup by decide +kernel)) (sgs_cons (sg_name (i:=1) (show (["mine", "its"]:List Str).Nodup by decide +kernel)) sgs_nil)))) (fun _ _ _ _ _=>(se_call D_is_row_within (hr.mono (by decide)) pass00D rfl (sa_cons (se_var 0) (sa_cons (se_var 1) sa_nil)))) (fun _ _ _ _ _=>sts_nil) (free_tup (free_cons (free_cons free_nil))))) sa_nil)))))
def m_raised : MS := (mSeqS (mSet 4 (mOp oIx (mVar 0) (mVar 1)))
    (mSeqS (mSet 5 (mOp oAdd (mOp oAdd (mSl (mVar 4) mNoPart (mPart (mVar 2))) (mTup (mCons (mOp oAdd (mOp oIx (mVar 4) (mVar 2)) (mVar 3)) mNil))) (mSl (mVar 4) (mPart (mOp oAdd (mVar 2) (mC (.int 1)))) mNoPart)))
    (mRet (mOp oAdd (mOp oAdd (mSl (mVar 0) mNoPart (mPart (mVar 1))) (mTup (mCons (mVar 5) mNil))) (mSl (mVar 0) (mPart (mOp oAdd (mVar 1) (mC (.int 1)))) mNoPart)))))
def F_raised:FN:=callF m_raised 6
theorem sc_raised:FnScope ["table", "house", "place", "k", "row", "higher"] ["table", "house", "place", "k"] (defScope s_raised):=⟨rfl,rfl,rfl,by decide +kernel,rfl,by decide +kernel,by decide +kernel⟩
theorem ok_raised {f:Addr} {fd:FuncData} (F:Fun K "raised" "raised" s_raised f fd) (T:Txt mg)   : FnOk P w K mg base (CXD P w) 1 f fd ["table", "house", "place", "k"] (spF mg 4 F_raised):=by
  refine fun_ok2 (k:=0) (m:=m_raised) F sc_raised rfl rfl rfl fun cdv A outer s H E hr=>?_
  exact (sb_cons (ss_set 4 sc_raised.nd (se_ix (se_var 0) (se_var 1)))
    (sb_cons (ss_set 5 sc_raised.nd (se_op os_add (se_op os_add (se_slice (se_var 4) so_none (so_some (se_var 2))) (se_tup (sa_cons (se_op os_add (se_ix (se_var 4) (se_var 2)) (se_var 3)) sa_nil))) (se_slice (se_var 4) (so_some (se_op os_add (se_var 2) se_int)) so_none)))
    (sb_one (ss_ret (se_op os_add (se_op os_add (se_slice (se_var 0) so_none (so_some (se_var 1))) (se_tup (sa_cons (se_var 5) sa_nil))) (se_slice (se_var 0) (so_some (se_op os_add (se_var 1) se_int)) so_none))))))
def m_made_some:MS:=(mRet (mOp (oI fun a b=>.bl (decide (b < a))) (mOp oIx (mOp oIx (mVar 0) (mVar 1)) (mVar 1)) (mC (.int 0))))
def F_made_some:FN:=callF m_made_some 2
theorem sc_made_some:FnScope ["table", "house"] ["table", "house"] (defScope s_made_some):=⟨rfl,rfl,rfl,by decide +kernel,rfl,by decide +kernel,by decide +kernel⟩
theorem ok_made_some {f:Addr} {fd:FuncData} (F:Fun K "made_some" "made_some" s_made_some f fd) (T:Txt mg)   : FnOk P w K mg base (CXD P w) 1 f fd ["table", "house"] (spF mg 2 F_made_some):=by
  refine fun_ok2 (k:=0) (m:=m_made_some) F sc_made_some rfl rfl rfl fun cdv A outer s H E hr=>?_
  exact (sb_one (ss_ret (se_cmp os_gt (se_ix (se_ix (se_var 0) (se_var 1)) (se_var 1)) se_int)))
def m_lent_or_used_some : MS := (mSeqS (mSet 2 (mOp oIx (mVar 0) (mVar 1)))
    (mRet (mOp (oI fun a b=>.bl (decide (b < a))) (mCall (cInts fun ns=>some (.int ns.sum)) (mCons (mVar 2) mNil)) (mOp oIx (mVar 2) (mVar 1)))))
def F_lent_or_used_some:FN:=callF m_lent_or_used_some 3
theorem sc_lent_or_used_some:FnScope ["table", "house", "row"] ["table", "house"] (defScope s_lent_or_used_some):=⟨rfl,rfl,rfl,by decide +kernel,rfl,by decide +kernel,by decide +kernel⟩
theorem ok_lent_or_used_some {f:Addr} {fd:FuncData} (F:Fun K "lent_or_used_some" "lent_or_used_some" s_lent_or_used_some f fd) (T:Txt mg)   : FnOk P w K mg base (CXD P w) 1 f fd ["table", "house"] (spF mg 2 F_lent_or_used_some):=by
  refine fun_ok2 (k:=0) (m:=m_lent_or_used_some) F sc_lent_or_used_some rfl rfl rfl fun cdv A outer s H E hr=>?_
  exact (sb_cons (ss_set 2 sc_lent_or_used_some.nd (se_ix (se_var 0) (se_var 1)))
    (sb_one (ss_ret (se_cmp os_gt (se_callB (cs_sum rfl) rfl T.b_sum boot_sum (sa_cons (se_var 2) sa_nil)) (se_ix (se_var 2) (se_var 1))))))
def e_was_lent_some_1:ME:=(mOp (oI fun a b=>.bl (decide (b < a))) (mOp oIx (mOp oIx (mVar 2) (mVar 0)) (mVar 1)) (mC (.int 0)))
def t_was_lent_some_1:MT:=(toB (mOp oNe (mVar 0) (mVar 1)))
def m_was_lent_some:MS:=(mRet (mCall (cBls fun ns=>.bl (ns.any id)) (mCons (mVal (mCompN [none,some 1,some 0] (gaName 0) (mSeq (mVar 2)) t_was_lent_some_1 e_was_lent_some_1)) mNil)))
def F_was_lent_some:FN:=callF m_was_lent_some 3
theorem sc_was_lent_some:FnScope ["table", "house", "lenders"] ["table", "house", "lenders"] (defScope s_was_lent_some):=⟨rfl,rfl,rfl,by decide +kernel,rfl,by decide +kernel,by decide +kernel⟩
theorem ok_was_lent_some {f:Addr} {fd:FuncData} (F:Fun K "was_lent_some" "was_lent_some" s_was_lent_some f fd) (T:Txt mg)   : FnOk P w K mg base (CXD P w) 1 f fd ["table", "house", "lenders"] (spF mg 3 F_was_lent_some):=by
  refine fun_ok2 (k:=0) (m:=m_was_lent_some) F sc_was_lent_some rfl rfl rfl fun cdv A outer s H E hr=>?_
  exact (sb_one (ss_ret (se_callB (cs_any rfl) rfl T.b_any boot_any (sa_cons (se_val (sn_comp [none,some 1,some 0] ["lender", "house", "table"] rfl (si_seq (se_var 2)) (fun _ _ _ _ _=>(sg_name (i:=0) (show (["lender", "house", "table"]:List Str).Nodup by decide +kernel))) (fun _ _ _ _ _=>(se_cmp os_gt (se_ix (se_ix (se_var 2) (se_var 0)) (se_var 1)) se_int)) (fun _ _ _ _ _=>(sts_one (st_cmp (os_ne hr.units) (se_var 0) (se_var 1)))) free_name)) sa_nil))))
def m_has_root:MS:=(mRet (mOr (mCallF 2 F_made_some (mCons (mVar 0) (mCons (mVar 1) mNil))) (mCallF 3 F_was_lent_some (mCons (mVar 0) (mCons (mVar 1) (mCons (mVar 2) mNil))))))
def F_has_root:FN:=callF m_has_root 3
theorem sc_has_root:FnScope ["table", "house", "ahead"] ["table", "house", "ahead"] (defScope s_has_root):=⟨rfl,rfl,rfl,by decide +kernel,rfl,by decide +kernel,by decide +kernel⟩
theorem ok_has_root {f:Addr} {fd:FuncData} (F:Fun K "has_root" "has_root" s_has_root f fd) (T:Txt mg)  (D_made_some:DefS P w K mg base 1 "made_some" 2 F_made_some) (D_was_lent_some:DefS P w K mg base 1 "was_lent_some" 3 F_was_lent_some):FnOk P w K mg base (CXD P w) 2 f fd ["table", "house", "ahead"] (spF mg 3 F_has_root):=by
  refine fun_ok2 (k:=1) (m:=m_has_root) F sc_has_root rfl rfl rfl fun cdv A outer s H E hr=>?_
  exact (sb_one (ss_ret (se_or (se_call D_made_some (hr.mono (by decide)) pass_onD rfl (sa_cons (se_var 0) (sa_cons (se_var 1) sa_nil))) (se_one (se_call D_was_lent_some (hr.mono (by decide)) pass_onD rfl (sa_cons (se_var 0) (sa_cons (se_var 1) (sa_cons (se_var 2) sa_nil))))))))
def e_rooted_houses_1:ME:=(mVar 0)
def t_rooted_houses_1:MT:=(toB (mOp (oIn true) (mVar 0) (mVar 1)))
def e_rooted_houses_2:ME:=(mVar 0)
def t_rooted_houses_2:MT:=(toB (mCallF 3 F_has_root (mCons (mVar 1) (mCons (mVar 0) (mCons (mVar 2) mNil)))))
def b_rooted_houses_1 : MS := (mSeqS (mSet 3 (mVal (mCompN [none, some 1] (gaName 0) (mRange1 (mCons (mCall cLen (mCons (mVar 0) mNil)) mNil)) t_rooted_houses_1 e_rooted_houses_1)))
    (mSeqS (mSet 4 (mVal (mCompN [none,some 0,some 1] (gaName 0) (mSeq (mVar 3)) t_rooted_houses_2 e_rooted_houses_2)))
    (mSeqS (mExpr (mBM mtExtend (mVar 1) (mCons (mVar 4) mNil)))
    (mSet 2 (mOp (oI fun a b=>.bl (decide (b < a))) (mCall cLen (mCons (mVar 4) mNil)) (mC (.int 0)))))))
def w_rooted_houses_1:MT:=(toB (mVar 2))
def m_rooted_houses : MS := (mSeqS (mSet 1 (mTrk (mLstN mNil)))
    (mSeqS (mSet 2 (mC (.bl true)))
    (mSeqS (whileG w_rooted_houses_1 b_rooted_houses_1 100000)
    (mRet (mVar 1)))))
def F_rooted_houses:FN:=callF m_rooted_houses 5
theorem sc_rooted_houses:FnScope ["table", "roots", "grows", "others", "found"] ["table"] (defScope s_rooted_houses):=⟨rfl,rfl,rfl,by decide +kernel,rfl,by decide +kernel,by decide +kernel⟩
theorem ok_rooted_houses {f:Addr} {fd:FuncData} (F:Fun K "rooted_houses" "rooted_houses" s_rooted_houses f fd) (T:Txt mg)  (D_has_root:DefS P w K mg base 2 "has_root" 3 F_has_root):FnOk P w K mg base (CXD P w) 3 f fd ["table"] (spF mg 1 F_rooted_houses):=by
  refine fun_ok2 (k:=2) (m:=m_rooted_houses) F sc_rooted_houses rfl rfl rfl fun cdv A outer s H E hr=>?_
  exact (sb_cons (ss_set 1 sc_rooted_houses.nd (se_trk (sn_lst sa_nil)))
    (sb_cons (ss_set 2 sc_rooted_houses.nd se_bl)
    (sb_cons (ss_while 100000 PassesOwn.leaving (st_val (se_var 2)) (sb_cons (by first | exact ss_compV [none,some 1] ["house", "roots"] 3 sc_rooted_houses.nd rfl (si_range1 rfl T.b_range (sa_cons (se_callB cs_len rfl T.b_len PySem.boot_len (sa_cons (se_var 0) sa_nil)) sa_nil)) (fun _ _ _ _ _=>(sg_name (i:=0) (show (["house", "roots"]:List Str).Nodup by decide +kernel))) (fun _ _ _ _ _=>(se_var 0)) (fun _ _ _ _ _=>(sts_one (st_cmp (os_notin hr.units) (se_var 0) (se_var 1)))) free_name | exact ss_set 3 sc_rooted_houses.nd (se_val (sn_comp [none,some 1] ["house", "roots"] rfl (si_range1 rfl T.b_range (sa_cons (se_callB cs_len rfl T.b_len PySem.boot_len (sa_cons (se_var 0) sa_nil)) sa_nil)) (fun _ _ _ _ _=>(sg_name (i:=0) (show (["house", "roots"]:List Str).Nodup by decide +kernel))) (fun _ _ _ _ _=>(se_var 0)) (fun _ _ _ _ _=>(sts_one (st_cmp (os_notin hr.units) (se_var 0) (se_var 1)))) free_name)))
    (sb_cons (by first | exact ss_compV [none,some 0,some 1] ["house", "table", "roots"] 4 sc_rooted_houses.nd rfl (si_seq (se_var 3)) (fun _ _ _ _ _=>(sg_name (i:=0) (show (["house", "table", "roots"]:List Str).Nodup by decide +kernel))) (fun _ _ _ _ _=>(se_var 0)) (fun _ _ _ _ _=>(sts_one (st_val (se_call D_has_root (hr.mono (by decide)) pass00D rfl (sa_cons (se_var 1) (sa_cons (se_var 0) (sa_cons (se_var 2) sa_nil))))))) free_name | exact ss_set 4 sc_rooted_houses.nd (se_val (sn_comp [none,some 0,some 1] ["house", "table", "roots"] rfl (si_seq (se_var 3)) (fun _ _ _ _ _=>(sg_name (i:=0) (show (["house", "table", "roots"]:List Str).Nodup by decide +kernel))) (fun _ _ _ _ _=>(se_var 0)) (fun _ _ _ _ _=>(sts_one (st_val (se_call D_has_root (hr.mono (by decide)) pass00D rfl (sa_cons (se_var 1) (sa_cons (se_var 0) (sa_cons (se_var 2) sa_nil))))))) free_name)))
    (sb_cons (ss_expr (se_extend (se_var 1) (sa_cons (se_var 4) sa_nil)))
    (sb_one (ss_set 2 sc_rooted_houses.nd (se_cmp os_gt (se_callB cs_len rfl T.b_len PySem.boot_len (sa_cons (se_var 4) sa_nil)) se_int)))))))
    (sb_one (ss_ret (se_var 1))))))
def e_rootless_houses_1:ME:=(mVar 0)
def t_rootless_houses_1:MT:=(toB (mOp (oIn true) (mVar 0) (mVar 1)))
def e_rootless_houses_2:ME:=(mCallF 2 F_lent_or_used_some (mCons (mVar 1) (mCons (mVar 0) mNil)))
def m_rootless_houses : MS := (mSeqS (mSet 1 (mCallF 1 F_rooted_houses (mCons (mVar 0) mNil)))
    (mSeqS (mSet 2 (mVal (mCompN [none,some 1] (gaName 0) (mRange1 (mCons (mCall cLen (mCons (mVar 0) mNil)) mNil)) t_rootless_houses_1 e_rootless_houses_1)))
    (mSeqS (mIfS (toB (mCall (cBls fun ns=>.bl (ns.any id)) (mCons (mVal (mCompN [none,some 0] (gaName 0) (mSeq (mVar 2)) mTrue e_rootless_houses_2)) mNil))) (mRet (mVar 2)) mNext)
    (mRet (mLst mNil)))))
def F_rootless_houses:FN:=callF m_rootless_houses 3
theorem sc_rootless_houses:FnScope ["table", "roots", "others"] ["table"] (defScope s_rootless_houses):=⟨rfl,rfl,rfl,by decide +kernel,rfl,by decide +kernel,by decide +kernel⟩
theorem ok_rootless_houses {f:Addr} {fd:FuncData} (F:Fun K "rootless_houses" "rootless_houses" s_rootless_houses f fd) (T:Txt mg)  (D_rooted_houses:DefS P w K mg base 3 "rooted_houses" 1 F_rooted_houses) (D_lent_or_used_some:DefS P w K mg base 1 "lent_or_used_some" 2 F_lent_or_used_some):FnOk P w K mg base (CXD P w) 4 f fd ["table"] (spF mg 1 F_rootless_houses):=by
  refine fun_ok2 (k:=3) (m:=m_rootless_houses) F sc_rootless_houses rfl rfl rfl fun cdv A outer s H E hr=>?_
  exact (sb_cons (ss_set 1 sc_rootless_houses.nd (se_call D_rooted_houses (hr.mono (by decide)) pass_onD rfl (sa_cons (se_var 0) sa_nil)))
    (sb_cons (by first | exact ss_compV [none,some 1] ["house", "roots"] 2 sc_rootless_houses.nd rfl (si_range1 rfl T.b_range (sa_cons (se_callB cs_len rfl T.b_len PySem.boot_len (sa_cons (se_var 0) sa_nil)) sa_nil)) (fun _ _ _ _ _=>(sg_name (i:=0) (show (["house", "roots"]:List Str).Nodup by decide +kernel))) (fun _ _ _ _ _=>(se_var 0)) (fun _ _ _ _ _=>(sts_one (st_cmp (os_notin hr.units) (se_var 0) (se_var 1)))) free_name | exact ss_set 2 sc_rootless_houses.nd (se_val (sn_comp [none,some 1] ["house", "roots"] rfl (si_range1 rfl T.b_range (sa_cons (se_callB cs_len rfl T.b_len PySem.boot_len (sa_cons (se_var 0) sa_nil)) sa_nil)) (fun _ _ _ _ _=>(sg_name (i:=0) (show (["house", "roots"]:List Str).Nodup by decide +kernel))) (fun _ _ _ _ _=>(se_var 0)) (fun _ _ _ _ _=>(sts_one (st_cmp (os_notin hr.units) (se_var 0) (se_var 1)))) free_name)))
    (sb_cons (ss_if (st_val (se_callB (cs_any rfl) rfl T.b_any boot_any (sa_cons (se_val (sn_comp [none,some 0] ["house", "table"] rfl (si_seq (se_var 2)) (fun _ _ _ _ _=>(sg_name (i:=0) (show (["house", "table"]:List Str).Nodup by decide +kernel))) (fun _ _ _ _ _=>(se_call D_lent_or_used_some (hr.mono (by decide)) pass00D rfl (sa_cons (se_var 1) (sa_cons (se_var 0) sa_nil)))) (fun _ _ _ _ _=>sts_nil) free_name)) sa_nil))) (sb_one (ss_ret (se_var 2))) sb_nil)
    (sb_one (ss_ret (se_lst sa_nil))))))
def b_comes_about_1:MS:=(mIfS (toB (mOp oLt (mCallF 2 F_rights (mCons (mVar 0) (mCons (mVar 1) mNil))) (mC (.int 0)))) (mRet (mTup (mCons (mC (.str "short")) (mCons (mVar 1) mNil)))) mNext)
def m_comes_about : MS := (mSeqS (mFor (gaName 1) (mRange1 (mCons (mCall cLen (mCons (mVar 0) mNil)) mNil)) b_comes_about_1)
    (mSeqS (mSet 2 (mCallF 1 F_rootless_houses (mCons (mVar 0) mNil)))
    (mSeqS (mIfS (toB (mOp (oI fun a b=>.bl (decide (b < a))) (mCall cLen (mCons (mVar 2) mNil)) (mC (.int 0)))) (mRet (mTup (mCons (mC (.str "rootless")) (mCons (mVar 2) mNil)))) mNext)
    (mRet (mTup (mCons (mC (.str "comes")) (mCons (mCallF 1 F_rooted_houses (mCons (mVar 0) mNil)) mNil)))))))
def F_comes_about:FN:=callF m_comes_about 3
theorem sc_comes_about:FnScope ["table", "house", "rootless"] ["table"] (defScope s_comes_about):=⟨rfl,rfl,rfl,by decide +kernel,rfl,by decide +kernel,by decide +kernel⟩
theorem ok_comes_about {f:Addr} {fd:FuncData} (F:Fun K "comes_about" "comes_about" s_comes_about f fd) (T:Txt mg)  (D_rights:DefS P w K mg base 4 "rights" 2 F_rights) (D_rootless_houses:DefS P w K mg base 4 "rootless_houses" 1 F_rootless_houses) (D_rooted_houses:DefS P w K mg base 3 "rooted_houses" 1 F_rooted_houses):FnOk P w K mg base (CXD P w) 5 f fd ["table"] (spF mg 1 F_comes_about):=by
  refine fun_ok2 (k:=4) (m:=m_comes_about) F sc_comes_about rfl rfl rfl fun cdv A outer s H E hr=>?_
  exact (sb_cons (ss_for PassesOwn.leaving rfl (si_range1 rfl T.b_range (sa_cons (se_callB cs_len rfl T.b_len PySem.boot_len (sa_cons (se_var 0) sa_nil)) sa_nil)) (sg_name (i:=1) sc_comes_about.nd) (sb_one (ss_if (st_cmp (os_lt hr.units) (se_call D_rights (hr.mono (by decide)) pass_onD rfl (sa_cons (se_var 0) (sa_cons (se_var 1) sa_nil))) se_int) (sb_one (ss_ret (se_tup (sa_cons se_str (sa_cons (se_var 1) sa_nil))))) sb_nil)))
    (sb_cons (ss_set 2 sc_comes_about.nd (se_call D_rootless_houses (hr.mono (by decide)) pass_onD rfl (sa_cons (se_var 0) sa_nil)))
    (sb_cons (ss_if (st_cmp os_gt (se_callB cs_len rfl T.b_len PySem.boot_len (sa_cons (se_var 2) sa_nil)) se_int) (sb_one (ss_ret (se_tup (sa_cons se_str (sa_cons (se_var 2) sa_nil))))) sb_nil)
    (sb_one (ss_ret (se_tup (sa_cons se_str (sa_cons (se_call D_rooted_houses (hr.mono (by decide)) pass_onD rfl (sa_cons (se_var 0) sa_nil)) sa_nil))))))))
def m_does_come_about:MS:=(mRet (mAnd (mCallF 1 F_is_table (mCons (mVar 0) mNil)) (mOp oEq (mOp oIx (mCallF 1 F_comes_about (mCons (mVar 0) mNil)) (mC (.int 0))) (mC (.str "comes")))))
def F_does_come_about:FN:=callF m_does_come_about 1
theorem sc_does_come_about:FnScope ["thing"] ["thing"] (defScope s_does_come_about):=⟨rfl,rfl,rfl,by decide +kernel,rfl,by decide +kernel,by decide +kernel⟩
theorem ok_does_come_about {f:Addr} {fd:FuncData} (F:Fun K "does_come_about" "does_come_about" s_does_come_about f fd) (T:Txt mg)  (D_is_table:DefS P w K mg base 3 "is_table" 1 F_is_table) (D_comes_about:DefS P w K mg base 5 "comes_about" 1 F_comes_about):FnOk P w K mg base (CXD P w) 6 f fd ["thing"] (spF mg 1 F_does_come_about):=by
  refine fun_ok2 (k:=5) (m:=m_does_come_about) F sc_does_come_about rfl rfl rfl fun cdv A outer s H E hr=>?_
  exact (sb_one (ss_ret (se_and (se_call D_is_table (hr.mono (by decide)) pass_onD rfl (sa_cons (se_var 0) sa_nil)) (se_one (se_cmp (os_eq hr.units) (se_ix (se_call D_comes_about (hr.mono (by decide)) pass_onD rfl (sa_cons (se_var 0) sa_nil)) se_int) se_str)))))
def m_need_comes_about:MS:=(mIfS (tNotM (toB (mCallF 1 F_does_come_about (mCons (mVar 0) mNil)))) (mRaise "NoTable" (mC (.str "no table that comes about"))) mNext)
def F_need_comes_about:FN:=callF m_need_comes_about 1
theorem sc_need_comes_about:FnScope ["thing"] ["thing"] (defScope s_need_comes_about):=⟨rfl,rfl,rfl,by decide +kernel,rfl,by decide +kernel,by decide +kernel⟩
theorem ok_need_comes_about {f:Addr} {fd:FuncData} (F:Fun K "need_comes_about" "need_comes_about" s_need_comes_about f fd) (T:Txt mg) (C_NoTable:∃ C,mg "NoTable" = some (.ref C)/\PySem.W.excIn K C bmVE "ValueError.__new__" = true) (D_does_come_about:DefS P w K mg base 6 "does_come_about" 1 F_does_come_about):FnOk P w K mg base (CXD P w) 7 f fd ["thing"] (spF mg 1 F_need_comes_about):=by
  refine fun_ok2 (k:=6) (m:=m_need_comes_about) F sc_need_comes_about rfl rfl rfl fun cdv A outer s H E hr=>?_
  exact (sb_one (ss_if (st_not (st_val (se_call D_does_come_about (hr.mono (by decide)) pass_onD rfl (sa_cons (se_var 0) sa_nil)))) (sb_one (ss_raise rfl raiseDok rfl C_NoTable.choose_spec.1 C_NoTable.choose_spec.2 se_str)) sb_nil))
def e_are_houses_1:ME:=(mCallF 2 F_is_house (mCons (mVar 1) (mCons (mVar 0) mNil)))
def m_are_houses:MS:=(mRet (mCall (cBls fun ns=>.bl (ns.all id)) (mCons (mVal (mCompN [none,some 0] (gaName 0) (mSeq (mVar 1)) mTrue e_are_houses_1)) mNil)))
def F_are_houses:FN:=callF m_are_houses 2
theorem sc_are_houses:FnScope ["table", "houses"] ["table", "houses"] (defScope s_are_houses):=⟨rfl,rfl,rfl,by decide +kernel,rfl,by decide +kernel,by decide +kernel⟩
theorem ok_are_houses {f:Addr} {fd:FuncData} (F:Fun K "are_houses" "are_houses" s_are_houses f fd) (T:Txt mg)  (D_is_house:DefS P w K mg base 3 "is_house" 2 F_is_house):FnOk P w K mg base (CXD P w) 4 f fd ["table", "houses"] (spF mg 2 F_are_houses):=by
  refine fun_ok2 (k:=3) (m:=m_are_houses) F sc_are_houses rfl rfl rfl fun cdv A outer s H E hr=>?_
  exact (sb_one (ss_ret (se_callB (cs_all rfl) rfl T.b_all boot_all (sa_cons (se_val (sn_comp [none,some 0] ["house", "table"] rfl (si_seq (se_var 1)) (fun _ _ _ _ _=>(sg_name (i:=0) (show (["house", "table"]:List Str).Nodup by decide +kernel))) (fun _ _ _ _ _=>(se_call D_is_house (hr.mono (by decide)) pass00D rfl (sa_cons (se_var 1) (sa_cons (se_var 0) sa_nil)))) (fun _ _ _ _ _=>sts_nil) free_name)) sa_nil))))
def m_is_pool : MS := (mSeqS (mIfS (tOrM (tNotM (toB (mIsI "tuple" (mVar 1)))) (toB (mOp oEq (mCall cLen (mCons (mVar 1) mNil)) (mC (.int 0))))) (mRet (mC (.bl false))) mNext)
    (mRet (mAnd (mCallF 2 F_are_houses (mCons (mVar 0) (mCons (mVar 1) mNil))) (mCallF 1 F_is_rising (mCons (mVar 1) mNil)))))
def F_is_pool:FN:=callF m_is_pool 2
theorem sc_is_pool:FnScope ["table", "thing"] ["table", "thing"] (defScope s_is_pool):=⟨rfl,rfl,rfl,by decide +kernel,rfl,by decide +kernel,by decide +kernel⟩
theorem ok_is_pool {f:Addr} {fd:FuncData} (F:Fun K "is_pool" "is_pool" s_is_pool f fd) (T:Txt mg)  (D_are_houses:DefS P w K mg base 4 "are_houses" 2 F_are_houses) (D_is_rising:DefS P w K mg base 1 "is_rising" 1 F_is_rising):FnOk P w K mg base (CXD P w) 5 f fd ["table", "thing"] (spF mg 2 F_is_pool):=by
  refine fun_ok2 (k:=4) (m:=m_is_pool) F sc_is_pool rfl rfl rfl fun cdv A outer s H E hr=>?_
  exact (sb_cons (ss_if (SimW.t (sw_or (st_not (st_val (se_isi (T := "tuple") (by decide) (se_var 1) rfl T.b_isinstance rfl T.b_tuple boot_tuple))) (sw_or1 (st_cmp (os_eq hr.units) (se_callB cs_len rfl T.b_len PySem.boot_len (sa_cons (se_var 1) sa_nil)) se_int)))) (sb_one (ss_ret se_bl)) sb_nil)
    (sb_one (ss_ret (se_and (se_call D_are_houses (hr.mono (by decide)) pass_onD rfl (sa_cons (se_var 0) (sa_cons (se_var 1) sa_nil))) (se_one (se_call D_is_rising (hr.mono (by decide)) pass_onD rfl (sa_cons (se_var 1) sa_nil)))))))
def m_need_pool : MS := (mSeqS (mExpr (mCallF 1 F_need_comes_about (mCons (mVar 0) mNil)))
    (mIfS (tNotM (toB (mCallF 2 F_is_pool (mCons (mVar 0) (mCons (mVar 1) mNil))))) (mRaise "NoHouse" (mC (.str "no pool of houses of this table"))) mNext))
def F_need_pool:FN:=callF m_need_pool 2
theorem sc_need_pool:FnScope ["table", "pool"] ["table", "pool"] (defScope s_need_pool):=⟨rfl,rfl,rfl,by decide +kernel,rfl,by decide +kernel,by decide +kernel⟩
theorem ok_need_pool {f:Addr} {fd:FuncData} (F:Fun K "need_pool" "need_pool" s_need_pool f fd) (T:Txt mg) (C_NoHouse:∃ C,mg "NoHouse" = some (.ref C)/\PySem.W.excIn K C bmVE "ValueError.__new__" = true) (D_need_comes_about:DefS P w K mg base 7 "need_comes_about" 1 F_need_comes_about) (D_is_pool:DefS P w K mg base 5 "is_pool" 2 F_is_pool):FnOk P w K mg base (CXD P w) 8 f fd ["table", "pool"] (spF mg 2 F_need_pool):=by
  refine fun_ok2 (k:=7) (m:=m_need_pool) F sc_need_pool rfl rfl rfl fun cdv A outer s H E hr=>?_
  exact (sb_cons (ss_expr (se_call D_need_comes_about (hr.mono (by decide)) pass_onD rfl (sa_cons (se_var 0) sa_nil)))
    (sb_one (ss_if (st_not (st_val (se_call D_is_pool (hr.mono (by decide)) pass_onD rfl (sa_cons (se_var 0) (sa_cons (se_var 1) sa_nil))))) (sb_one (ss_raise rfl raiseDok rfl C_NoHouse.choose_spec.1 C_NoHouse.choose_spec.2 se_str)) sb_nil)))
def e_rights_of_pool_1:ME:=(mCallF 2 F_rights (mCons (mVar 1) (mCons (mVar 0) mNil)))
def m_rights_of_pool:MS:=(mRet (mCall (cInts fun ns=>some (.int ns.sum)) (mCons (mVal (mCompN [none,some 0] (gaName 0) (mSeq (mVar 1)) mTrue e_rights_of_pool_1)) mNil)))
def F_rights_of_pool:FN:=callF m_rights_of_pool 2
theorem sc_rights_of_pool:FnScope ["table", "pool"] ["table", "pool"] (defScope s_rights_of_pool):=⟨rfl,rfl,rfl,by decide +kernel,rfl,by decide +kernel,by decide +kernel⟩
theorem ok_rights_of_pool {f:Addr} {fd:FuncData} (F:Fun K "rights_of_pool" "rights_of_pool" s_rights_of_pool f fd) (T:Txt mg)  (D_rights:DefS P w K mg base 4 "rights" 2 F_rights):FnOk P w K mg base (CXD P w) 5 f fd ["table", "pool"] (spF mg 2 F_rights_of_pool):=by
  refine fun_ok2 (k:=4) (m:=m_rights_of_pool) F sc_rights_of_pool rfl rfl rfl fun cdv A outer s H E hr=>?_
  exact (sb_one (ss_ret (se_callB (cs_sum rfl) rfl T.b_sum boot_sum (sa_cons (se_val (sn_comp [none,some 0] ["house", "table"] rfl (si_seq (se_var 1)) (fun _ _ _ _ _=>(sg_name (i:=0) (show (["house", "table"]:List Str).Nodup by decide +kernel))) (fun _ _ _ _ _=>(se_call D_rights (hr.mono (by decide)) pass00D rfl (sa_cons (se_var 1) (sa_cons (se_var 0) sa_nil)))) (fun _ _ _ _ _=>sts_nil) free_name)) sa_nil))))
def m_least_stock : MS := (mSeqS (mExpr (mCallF 2 F_need_pool (mCons (mVar 0) (mCons (mVar 1) mNil))))
    (mRet (mCallF 2 F_rights_of_pool (mCons (mVar 0) (mCons (mVar 1) mNil)))))
def F_least_stock:FN:=callF m_least_stock 2
theorem sc_least_stock:FnScope ["table", "pool"] ["table", "pool"] (defScope s_least_stock):=⟨rfl,rfl,rfl,by decide +kernel,rfl,by decide +kernel,by decide +kernel⟩
theorem ok_least_stock {f:Addr} {fd:FuncData} (F:Fun K "least_stock" "least_stock" s_least_stock f fd) (T:Txt mg)  (D_need_pool:DefS P w K mg base 8 "need_pool" 2 F_need_pool) (D_rights_of_pool:DefS P w K mg base 5 "rights_of_pool" 2 F_rights_of_pool):FnOk P w K mg base (CXD P w) 9 f fd ["table", "pool"] (spF mg 2 F_least_stock):=by
  refine fun_ok2 (k:=8) (m:=m_least_stock) F sc_least_stock rfl rfl rfl fun cdv A outer s H E hr=>?_
  exact (sb_cons (ss_expr (se_call D_need_pool (hr.mono (by decide)) pass_onD rfl (sa_cons (se_var 0) (sa_cons (se_var 1) sa_nil))))
    (sb_one (ss_ret (se_call D_rights_of_pool (hr.mono (by decide)) pass_onD rfl (sa_cons (se_var 0) (sa_cons (se_var 1) sa_nil))))))
def b_poorest_world_1:MS:=(mIfS (toB (mOp (oIn true) (mVar 3) (mVar 1))) (mSet 2 (mCallF 4 F_raised (mCons (mVar 2) (mCons (mVar 3) (mCons (mCall cLen (mCons (mVar 0) mNil)) (mCons (mCallF 2 F_rights (mCons (mVar 0) (mCons (mVar 3) mNil))) mNil)))))) mNext)
def m_poorest_world : MS := (mSeqS (mSet 2 (mVar 0))
    (mSeqS (mFor (gaName 3) (mRange1 (mCons (mCall cLen (mCons (mVar 0) mNil)) mNil)) b_poorest_world_1)
    (mRet (mVar 2))))
def F_poorest_world:FN:=callF m_poorest_world 4
theorem sc_poorest_world:FnScope ["table", "pool", "world", "house"] ["table", "pool"] (defScope s_poorest_world):=⟨rfl,rfl,rfl,by decide +kernel,rfl,by decide +kernel,by decide +kernel⟩
theorem ok_poorest_world {f:Addr} {fd:FuncData} (F:Fun K "poorest_world" "poorest_world" s_poorest_world f fd) (T:Txt mg)  (D_raised:DefS P w K mg base 1 "raised" 4 F_raised) (D_rights:DefS P w K mg base 4 "rights" 2 F_rights):FnOk P w K mg base (CXD P w) 5 f fd ["table", "pool"] (spF mg 2 F_poorest_world):=by
  refine fun_ok2 (k:=4) (m:=m_poorest_world) F sc_poorest_world rfl rfl rfl fun cdv A outer s H E hr=>?_
  exact (sb_cons (ss_set 2 sc_poorest_world.nd (se_var 0))
    (sb_cons (ss_for PassesOwn.leaving rfl (si_range1 rfl T.b_range (sa_cons (se_callB cs_len rfl T.b_len PySem.boot_len (sa_cons (se_var 0) sa_nil)) sa_nil)) (sg_name (i:=3) sc_poorest_world.nd) (sb_one (ss_if (st_cmp (os_notin hr.units) (se_var 3) (se_var 1)) (sb_one (ss_set 2 sc_poorest_world.nd (se_call D_raised (hr.mono (by decide)) pass_onD rfl (sa_cons (se_var 2) (sa_cons (se_var 3) (sa_cons (se_callB cs_len rfl T.b_len PySem.boot_len (sa_cons (se_var 0) sa_nil)) (sa_cons (se_call D_rights (hr.mono (by decide)) pass_onD rfl (sa_cons (se_var 0) (sa_cons (se_var 3) sa_nil))) sa_nil))))))) sb_nil)))
    (sb_one (ss_ret (se_var 2)))))
def m_may_use : MS := (mSeqS (mExpr (mCallF 2 F_need_pool (mCons (mVar 0) (mCons (mVar 1) mNil))))
    (mSeqS (mSet 3 (mCallF 2 F_rights_of_pool (mCons (mVar 0) (mCons (mVar 1) mNil))))
    (mSeqS (mIfS (toB (mOp (oI fun a b=>.bl (decide (b<=a))) (mVar 3) (mVar 2))) (mRet (mTup (mCons (mC (.str "may")) (mCons (mVar 3) mNil)))) mNext)
    (mRet (mTup (mCons (mC (.str "must")) (mCons (mCallF 2 F_poorest_world (mCons (mVar 0) (mCons (mVar 1) mNil))) mNil)))))))
def F_may_use:FN:=callF m_may_use 4
theorem sc_may_use:FnScope ["table", "pool", "k", "had"] ["table", "pool", "k"] (defScope s_may_use):=⟨rfl,rfl,rfl,by decide +kernel,rfl,by decide +kernel,by decide +kernel⟩
theorem ok_may_use {f:Addr} {fd:FuncData} (F:Fun K "may_use" "may_use" s_may_use f fd) (T:Txt mg)  (D_need_pool:DefS P w K mg base 8 "need_pool" 2 F_need_pool) (D_rights_of_pool:DefS P w K mg base 5 "rights_of_pool" 2 F_rights_of_pool) (D_poorest_world:DefS P w K mg base 5 "poorest_world" 2 F_poorest_world):FnOk P w K mg base (CXD P w) 9 f fd ["table", "pool", "k"] (spF mg 3 F_may_use):=by
  refine fun_ok2 (k:=8) (m:=m_may_use) F sc_may_use rfl rfl rfl fun cdv A outer s H E hr=>?_
  exact (sb_cons (ss_expr (se_call D_need_pool (hr.mono (by decide)) pass_onD rfl (sa_cons (se_var 0) (sa_cons (se_var 1) sa_nil))))
    (sb_cons (ss_set 3 sc_may_use.nd (se_call D_rights_of_pool (hr.mono (by decide)) pass_onD rfl (sa_cons (se_var 0) (sa_cons (se_var 1) sa_nil))))
    (sb_cons (ss_if (st_cmp os_ge (se_var 3) (se_var 2)) (sb_one (ss_ret (se_tup (sa_cons se_str (sa_cons (se_var 3) sa_nil))))) sb_nil)
    (sb_one (ss_ret (se_tup (sa_cons se_str (sa_cons (se_call D_poorest_world (hr.mono (by decide)) pass_onD rfl (sa_cons (se_var 0) (sa_cons (se_var 1) sa_nil))) sa_nil))))))))
def e_is_world_1:ME:=(mOp oEq (mOp oIx (mVar 1) (mVar 0)) (mOp oIx (mVar 2) (mVar 0)))
def m_is_world : MS := (mSeqS (mExpr (mCallF 2 F_need_pool (mCons (mVar 0) (mCons (mVar 1) mNil))))
    (mSeqS (mIfS (tOrM (tNotM (toB (mCallF 1 F_does_come_about (mCons (mVar 2) mNil)))) (toB (mOp oNe (mCall cLen (mCons (mVar 2) mNil)) (mCall cLen (mCons (mVar 0) mNil))))) (mRet (mC (.bl false))) mNext)
    (mRet (mAnd (mCallF 2 F_is_within (mCons (mVar 0) (mCons (mVar 2) mNil))) (mCall (cBls fun ns=>.bl (ns.all id)) (mCons (mVal (mCompN [none,some 2,some 0] (gaName 0) (mSeq (mVar 1)) mTrue e_is_world_1)) mNil))))))
def F_is_world:FN:=callF m_is_world 3
theorem sc_is_world:FnScope ["table", "pool", "world"] ["table", "pool", "world"] (defScope s_is_world):=⟨rfl,rfl,rfl,by decide +kernel,rfl,by decide +kernel,by decide +kernel⟩
theorem ok_is_world {f:Addr} {fd:FuncData} (F:Fun K "is_world" "is_world" s_is_world f fd) (T:Txt mg)  (D_need_pool:DefS P w K mg base 8 "need_pool" 2 F_need_pool) (D_does_come_about:DefS P w K mg base 6 "does_come_about" 1 F_does_come_about) (D_is_within:DefS P w K mg base 2 "is_within" 2 F_is_within):FnOk P w K mg base (CXD P w) 9 f fd ["table", "pool", "world"] (spF mg 3 F_is_world):=by
  refine fun_ok2 (k:=8) (m:=m_is_world) F sc_is_world rfl rfl rfl fun cdv A outer s H E hr=>?_
  exact (sb_cons (ss_expr (se_call D_need_pool (hr.mono (by decide)) pass_onD rfl (sa_cons (se_var 0) (sa_cons (se_var 1) sa_nil))))
    (sb_cons (ss_if (SimW.t (sw_or (st_not (st_val (se_call D_does_come_about (hr.mono (by decide)) pass_onD rfl (sa_cons (se_var 2) sa_nil)))) (sw_or1 (st_cmp (os_ne hr.units) (se_callB cs_len rfl T.b_len PySem.boot_len (sa_cons (se_var 2) sa_nil)) (se_callB cs_len rfl T.b_len PySem.boot_len (sa_cons (se_var 0) sa_nil)))))) (sb_one (ss_ret se_bl)) sb_nil)
    (sb_one (ss_ret (se_and (se_call D_is_within (hr.mono (by decide)) pass_onD rfl (sa_cons (se_var 0) (sa_cons (se_var 2) sa_nil))) (se_one (se_callB (cs_all rfl) rfl T.b_all boot_all (sa_cons (se_val (sn_comp [none,some 2,some 0] ["house", "world", "table"] rfl (si_seq (se_var 1)) (fun _ _ _ _ _=>(sg_name (i:=0) (show (["house", "world", "table"]:List Str).Nodup by decide +kernel))) (fun _ _ _ _ _=>(se_cmp (os_eq hr.units) (se_ix (se_var 1) (se_var 0)) (se_ix (se_var 2) (se_var 0)))) (fun _ _ _ _ _=>sts_nil) free_name)) sa_nil))))))))
def m_shows_must:MS:=(mRet (mAnd (mCallF 3 F_is_world (mCons (mVar 0) (mCons (mVar 1) (mCons (mVar 3) mNil)))) (mOp oLt (mCallF 1 F_stock (mCons (mVar 3) mNil)) (mVar 2))))
def F_shows_must:FN:=callF m_shows_must 4
theorem sc_shows_must:FnScope ["table", "pool", "k", "world"] ["table", "pool", "k", "world"] (defScope s_shows_must):=⟨rfl,rfl,rfl,by decide +kernel,rfl,by decide +kernel,by decide +kernel⟩
theorem ok_shows_must {f:Addr} {fd:FuncData} (F:Fun K "shows_must" "shows_must" s_shows_must f fd) (T:Txt mg)  (D_is_world:DefS P w K mg base 9 "is_world" 3 F_is_world) (D_stock:DefS P w K mg base 1 "stock" 1 F_stock):FnOk P w K mg base (CXD P w) 10 f fd ["table", "pool", "k", "world"] (spF mg 4 F_shows_must):=by
  refine fun_ok2 (k:=9) (m:=m_shows_must) F sc_shows_must rfl rfl rfl fun cdv A outer s H E hr=>?_
  exact (sb_one (ss_ret (se_and (se_call D_is_world (hr.mono (by decide)) pass_onD rfl (sa_cons (se_var 0) (sa_cons (se_var 1) (sa_cons (se_var 3) sa_nil)))) (se_one (se_cmp (os_lt hr.units) (se_call D_stock (hr.mono (by decide)) pass_onD rfl (sa_cons (se_var 3) sa_nil)) (se_var 2))))))
def b__law_b_draw_1:MS:=(mSet 2 (mOp oMod (mOp oAdd (mOp oAdd (mOp oMul (mVar 2) (mC (.int 69621))) (mOp oMod (mVar 3) (mC (.int 998244353)))) (mC (.int 1))) (mC (.int 1000000007))))
def m__law_b_draw : MS := (mSeqS (mIfS (toB (mOp oLt (mVar 1) (mCall cLen (mCons (mVar 0) mNil)))) (mRet (mOp oMod (mOp oIx (mVar 0) (mVar 1)) (mOp oPow (mC (.int 10)) (mC (.int 40))))) mNext)
    (mSeqS (mSet 2 (mOp oMul (mC (.int 1000003)) (mOp oAdd (mVar 1) (mC (.int 1)))))
    (mSeqS (mFor (gaName 3) (mSeq (mSl (mVar 0) mNoPart (mPart (mC (.int 7))))) b__law_b_draw_1)
    (mSeqS (mSet 2 (mOp oMod (mOp oMul (mVar 2) (mVar 2)) (mC (.int 1000000007))))
    (mSeqS (mSet 2 (mOp oMod (mOp oMul (mOp oAdd (mVar 2) (mOp oMul (mOp oMul (mC (.int 7919)) (mVar 1)) (mVar 1))) (mC (.int 48271))) (mC (.int 2147483647))))
    (mRet (mOp oDiv (mOp oMod (mOp oMul (mVar 2) (mVar 2)) (mC (.int 2147483647))) (mC (.int 8)))))))))
def F__law_b_draw:FN:=callF m__law_b_draw 4
theorem sc__law_b_draw:FnScope ["script", "k", "mixed", "cell"] ["script", "k"] (defScope s__law_b_draw):=⟨rfl,rfl,rfl,by decide +kernel,rfl,by decide +kernel,by decide +kernel⟩
theorem ok__law_b_draw {f:Addr} {fd:FuncData} (F:Fun K "_law_b_draw" "_law_b_draw" s__law_b_draw f fd) (T:Txt mg)   : FnOk P w K mg base (CXD P w) 1 f fd ["script", "k"] (spF mg 2 F__law_b_draw):=by
  refine fun_ok2 (k:=0) (m:=m__law_b_draw) F sc__law_b_draw rfl rfl rfl fun cdv A outer s H E hr=>?_
  exact (sb_cons (ss_if (st_cmp (os_lt hr.units) (se_var 1) (se_callB cs_len rfl T.b_len PySem.boot_len (sa_cons (se_var 0) sa_nil))) (sb_one (ss_ret (se_op os_mod (se_ix (se_var 0) (se_var 1)) (se_op os_pow se_int se_int)))) sb_nil)
    (sb_cons (ss_set 2 sc__law_b_draw.nd (se_op os_mul se_int (se_op os_add (se_var 1) se_int)))
    (sb_cons (ss_for PassesOwn.leaving rfl (si_seq (se_slice (se_var 0) so_none (so_some se_int))) (sg_name (i:=3) sc__law_b_draw.nd) (sb_one (ss_set 2 sc__law_b_draw.nd (se_op os_mod (se_op os_add (se_op os_add (se_op os_mul (se_var 2) se_int) (se_op os_mod (se_var 3) se_int)) se_int) se_int))))
    (sb_cons (ss_set 2 sc__law_b_draw.nd (se_op os_mod (se_op os_mul (se_var 2) (se_var 2)) se_int))
    (sb_cons (ss_set 2 sc__law_b_draw.nd (se_op os_mod (se_op os_mul (se_op os_add (se_var 2) (se_op os_mul (se_op os_mul se_int (se_var 1)) (se_var 1))) se_int) se_int))
    (sb_one (ss_ret (se_op os_div (se_op os_mod (se_op os_mul (se_var 2) (se_var 2)) se_int) se_int))))))))
def b__law_b_rights_1 : MS := (mSeqS (mSet 3 (mOp oAdd (mVar 3) (mOp oIx (mOp oIx (mVar 0) (mVar 4)) (mVar 1))))
    (mIfS (toB (mOp oNe (mVar 4) (mVar 1))) (mSet 3 (mOp (oI fun a b=>.int (a - b)) (mVar 3) (mOp oIx (mOp oIx (mVar 0) (mVar 1)) (mVar 4)))) mNext))
def m__law_b_rights : MS := (mSeqS (mSet 2 (mCall cLen (mCons (mVar 0) mNil)))
    (mSeqS (mSet 3 (mC (.int 0)))
    (mSeqS (mFor (gaName 4) (mRange1 (mCons (mVar 2) mNil)) b__law_b_rights_1)
    (mRet (mOp (oI fun a b=>.int (a - b)) (mVar 3) (mOp oIx (mOp oIx (mVar 0) (mVar 1)) (mVar 2)))))))
def F__law_b_rights:FN:=callF m__law_b_rights 5
theorem sc__law_b_rights:FnScope ["table", "house", "n", "total", "other"] ["table", "house"] (defScope s__law_b_rights):=⟨rfl,rfl,rfl,by decide +kernel,rfl,by decide +kernel,by decide +kernel⟩
theorem ok__law_b_rights {f:Addr} {fd:FuncData} (F:Fun K "_law_b_rights" "_law_b_rights" s__law_b_rights f fd) (T:Txt mg)   : FnOk P w K mg base (CXD P w) 1 f fd ["table", "house"] (spF mg 2 F__law_b_rights):=by
  refine fun_ok2 (k:=0) (m:=m__law_b_rights) F sc__law_b_rights rfl rfl rfl fun cdv A outer s H E hr=>?_
  exact (sb_cons (ss_set 2 sc__law_b_rights.nd (se_callB cs_len rfl T.b_len PySem.boot_len (sa_cons (se_var 0) sa_nil)))
    (sb_cons (ss_set 3 sc__law_b_rights.nd se_int)
    (sb_cons (ss_for PassesOwn.leaving rfl (si_range1 rfl T.b_range (sa_cons (se_var 2) sa_nil)) (sg_name (i:=4) sc__law_b_rights.nd) (sb_cons (ss_set 3 sc__law_b_rights.nd (se_op os_add (se_var 3) (se_ix (se_ix (se_var 0) (se_var 4)) (se_var 1))))
    (sb_one (ss_if (st_cmp (os_ne hr.units) (se_var 4) (se_var 1)) (sb_one (ss_set 3 sc__law_b_rights.nd (se_op os_sub (se_var 3) (se_ix (se_ix (se_var 0) (se_var 1)) (se_var 4))))) sb_nil))))
    (sb_one (ss_ret (se_op os_sub (se_var 3) (se_ix (se_ix (se_var 0) (se_var 1)) (se_var 2))))))))
def m__law_b_few : MS := (mSeqS (mSet 1 (mOp oMod (mVar 0) (mC (.int 8))))
    (mSeqS (mSet 2 (mOp oDiv (mVar 0) (mC (.int 8))))
    (mSeqS (mIfS (toB (mOp oLt (mVar 1) (mC (.int 5)))) (mRet (mC (.int 0))) mNext)
    (mSeqS (mIfS (toB (mOp oLt (mVar 1) (mC (.int 7)))) (mRet (mOp oAdd (mC (.int 1)) (mOp oMod (mVar 2) (mC (.int 3))))) mNext)
    (mRet (mOp oAdd (mC (.int 1)) (mOp oMod (mVar 2) (mOp oPow (mC (.int 10)) (mC (.int 28))))))))))
def F__law_b_few:FN:=callF m__law_b_few 3
theorem sc__law_b_few:FnScope ["draw", "way", "rest"] ["draw"] (defScope s__law_b_few):=⟨rfl,rfl,rfl,by decide +kernel,rfl,by decide +kernel,by decide +kernel⟩
theorem ok__law_b_few {f:Addr} {fd:FuncData} (F:Fun K "_law_b_few" "_law_b_few" s__law_b_few f fd) (T:Txt mg)   : FnOk P w K mg base (CXD P w) 1 f fd ["draw"] (spF mg 1 F__law_b_few):=by
  refine fun_ok2 (k:=0) (m:=m__law_b_few) F sc__law_b_few rfl rfl rfl fun cdv A outer s H E hr=>?_
  exact (sb_cons (ss_set 1 sc__law_b_few.nd (se_op os_mod (se_var 0) se_int))
    (sb_cons (ss_set 2 sc__law_b_few.nd (se_op os_div (se_var 0) se_int))
    (sb_cons (ss_if (st_cmp (os_lt hr.units) (se_var 1) se_int) (sb_one (ss_ret se_int)) sb_nil)
    (sb_cons (ss_if (st_cmp (os_lt hr.units) (se_var 1) se_int) (sb_one (ss_ret (se_op os_add se_int (se_op os_mod (se_var 2) se_int)))) sb_nil)
    (sb_one (ss_ret (se_op os_add se_int (se_op os_mod (se_var 2) (se_op os_pow se_int se_int)))))))))
def e__law_b_sparse_1:ME:=(mCallF 1 F__law_b_few (mCons (mCallF 2 F__law_b_draw (mCons (mVar 1) (mCons (mOp oAdd (mOp oAdd (mVar 2) (mOp oMul (mVar 3) (mOp oAdd (mVar 4) (mC (.int 1))))) (mVar 0)) mNil))) mNil))
def b__law_b_sparse_1:MS:=(mExpr (mBM mtAppend (mVar 3) (mCons (mVal (mCompN [none,some 0,some 2,some 4,some 1] (gaName 0) (mRange1 (mCons (mOp oAdd (mVar 1) (mC (.int 1))) mNil)) mTrue e__law_b_sparse_1)) mNil)))
def m__law_b_sparse : MS := (mSeqS (mSet 3 (mTrk (mLstN mNil)))
    (mSeqS (mFor (gaName 4) (mRange1 (mCons (mVar 1) mNil)) b__law_b_sparse_1)
    (mRet (mVar 3))))
def F__law_b_sparse:FN:=callF m__law_b_sparse 5
theorem sc__law_b_sparse:FnScope ["script", "n", "at", "rows", "i"] ["script", "n", "at"] (defScope s__law_b_sparse):=⟨rfl,rfl,rfl,by decide +kernel,rfl,by decide +kernel,by decide +kernel⟩
theorem ok__law_b_sparse {f:Addr} {fd:FuncData} (F:Fun K "_law_b_sparse" "_law_b_sparse" s__law_b_sparse f fd) (T:Txt mg)  (D__law_b_few:DefS P w K mg base 1 "_law_b_few" 1 F__law_b_few) (D__law_b_draw:DefS P w K mg base 1 "_law_b_draw" 2 F__law_b_draw):FnOk P w K mg base (CXD P w) 2 f fd ["script", "n", "at"] (spF mg 3 F__law_b_sparse):=by
  refine fun_ok2 (k:=1) (m:=m__law_b_sparse) F sc__law_b_sparse rfl rfl rfl fun cdv A outer s H E hr=>?_
  exact (sb_cons (ss_set 3 sc__law_b_sparse.nd (se_trk (sn_lst sa_nil)))
    (sb_cons (ss_for PassesOwn.leaving rfl (si_range1 rfl T.b_range (sa_cons (se_var 1) sa_nil)) (sg_name (i:=4) sc__law_b_sparse.nd) (sb_one (ss_expr (se_append (se_var 3) (sa_cons (se_val (sn_comp [none,some 0,some 2,some 4,some 1] ["j", "script", "at", "i", "n"] rfl (si_range1 rfl T.b_range (sa_cons (se_op os_add (se_var 1) se_int) sa_nil)) (fun _ _ _ _ _=>(sg_name (i:=0) (show (["j", "script", "at", "i", "n"]:List Str).Nodup by decide +kernel))) (fun _ _ _ _ _=>(se_call D__law_b_few (hr.mono (by decide)) pass00D rfl (sa_cons (se_call D__law_b_draw (hr.mono (by decide)) pass00D rfl (sa_cons (se_var 1) (sa_cons (se_op os_add (se_op os_add (se_var 2) (se_op os_mul (se_var 3) (se_op os_add (se_var 4) se_int))) (se_var 0)) sa_nil))) sa_nil))) (fun _ _ _ _ _=>sts_nil) free_name)) sa_nil)))))
    (sb_one (ss_ret (se_var 3)))))
def b__law_b_deeds_1 : MS := (mSeqS (mSet 7 (mCallF 2 F__law_b_draw (mCons (mVar 1) (mCons (mOp oAdd (mVar 2) (mVar 6)) mNil))))
    (mSeqS (mSet 8 (mOp oMod (mVar 7) (mC (.int 5))))
    (mSeqS (mSet 9 (mOp oIx (mVar 4) (mOp oMod (mOp oDiv (mVar 7) (mC (.int 5))) (mCall cLen (mCons (mVar 4) mNil)))))
    (mSeqS (mSet 10 (mCallF 2 F__law_b_rights (mCons (mVar 0) (mCons (mVar 9) mNil))))
    (mSeqS (mSet 11 (mOp oAdd (mC (.int 1)) (mOp oMod (mOp oDiv (mVar 7) (mC (.int 40))) (mC (.int 5)))))
    (mSeqS (mIfS (toB (mOp oEq (mOp oMod (mOp oDiv (mVar 7) (mC (.int 200))) (mC (.int 8))) (mC (.int 7)))) (mSet 11 (mOp oAdd (mC (.int 1)) (mOp oMod (mOp oDiv (mVar 7) (mC (.int 1600))) (mOp oPow (mC (.int 10)) (mC (.int 20)))))) mNext)
    (mIfS (tOrM (toB (mOp oLt (mVar 8) (mC (.int 2)))) (toB (mOp oLt (mVar 10) (mC (.int 1))))) (mSetIx (mOp oIx (mVar 0) (mVar 9)) (mVar 9) (mOp oAdd (mOp oIx (mOp oIx (mVar 0) (mVar 9)) (mVar 9)) (mVar 11))) (mSeqS (mSet 12 (mVar 5))
    (mSeqS (mIfS (toB (mOp oLt (mVar 8) (mC (.int 4)))) (mSet 12 (mOp oMod (mOp oDiv (mVar 7) (mC (.int 40))) (mVar 5))) mNext)
    (mSeqS (mIfS (toB (mOp oEq (mVar 12) (mVar 9))) (mSet 12 (mVar 5)) mNext)
    (mSetIx (mOp oIx (mVar 0) (mVar 9)) (mVar 12) (mOp oAdd (mOp oIx (mOp oIx (mVar 0) (mVar 9)) (mVar 12)) (mCall cMin (mCons (mVar 11) (mCons (mVar 10) mNil)))))))))))))))
def m__law_b_deeds : MS := (mSeqS (mSet 5 (mCall cLen (mCons (mVar 0) mNil)))
    (mSeqS (mFor (gaName 6) (mRange1 (mCons (mVar 3) mNil)) b__law_b_deeds_1)
    (mRet (mVar 0))))
def F__law_b_deeds:FN:=callK m__law_b_deeds 13
theorem sc__law_b_deeds:FnScope ["rows", "script", "at", "many", "houses", "n", "k", "draw", "word", "i", "has", "step", "j"] ["rows", "script", "at", "many", "houses"] (defScope s__law_b_deeds):=⟨rfl,rfl,rfl,by decide +kernel,rfl,by decide +kernel,by decide +kernel⟩
theorem ok__law_b_deeds {f:Addr} {fd:FuncData} (F:Fun K "_law_b_deeds" "_law_b_deeds" s__law_b_deeds f fd) (T:Txt mg)  (D__law_b_draw:DefS P w K mg base 1 "_law_b_draw" 2 F__law_b_draw) (D__law_b_rights:DefS P w K mg base 1 "_law_b_rights" 2 F__law_b_rights):FnOk P w K mg base (CXD P w) 2 f fd ["rows", "script", "at", "many", "houses"] (spF mg 5 F__law_b_deeds):=by
  refine fun_ok2K (k:=1) (m:=m__law_b_deeds) F sc__law_b_deeds rfl rfl rfl fun cdv A outer s H E hr=>?_
  exact (sb_cons (ss_set 5 sc__law_b_deeds.nd (se_callB cs_len rfl T.b_len PySem.boot_len (sa_cons (se_var 0) sa_nil)))
    (sb_cons (ss_for PassesOwn.leaving rfl (si_range1 rfl T.b_range (sa_cons (se_var 3) sa_nil)) (sg_name (i:=6) sc__law_b_deeds.nd) (sb_cons (ss_set 7 sc__law_b_deeds.nd (se_call D__law_b_draw (hr.mono (by decide)) pass_onD rfl (sa_cons (se_var 1) (sa_cons (se_op os_add (se_var 2) (se_var 6)) sa_nil))))
    (sb_cons (ss_set 8 sc__law_b_deeds.nd (se_op os_mod (se_var 7) se_int))
    (sb_cons (ss_set 9 sc__law_b_deeds.nd (se_ix (se_var 4) (se_op os_mod (se_op os_div (se_var 7) se_int) (se_callB cs_len rfl T.b_len PySem.boot_len (sa_cons (se_var 4) sa_nil)))))
    (sb_cons (ss_set 10 sc__law_b_deeds.nd (se_call D__law_b_rights (hr.mono (by decide)) pass_onD rfl (sa_cons (se_var 0) (sa_cons (se_var 9) sa_nil))))
    (sb_cons (ss_set 11 sc__law_b_deeds.nd (se_op os_add se_int (se_op os_mod (se_op os_div (se_var 7) se_int) se_int)))
    (sb_cons (ss_if (st_cmp (os_eq hr.units) (se_op os_mod (se_op os_div (se_var 7) se_int) se_int) se_int) (sb_one (ss_set 11 sc__law_b_deeds.nd (se_op os_add se_int (se_op os_mod (se_op os_div (se_var 7) se_int) (se_op os_pow se_int se_int))))) sb_nil)
    (sb_one (ss_if (SimW.t (sw_or (st_cmp (os_lt hr.units) (se_var 8) se_int) (sw_or1 (st_cmp (os_lt hr.units) (se_var 10) se_int)))) (sb_one (ss_sub (se_op os_add (se_ix (se_ix (se_var 0) (se_var 9)) (se_var 9)) (se_var 11)) (se_ix (se_var 0) (se_var 9)) (se_var 9))) (sb_cons (ss_set 12 sc__law_b_deeds.nd (se_var 5))
    (sb_cons (ss_if (st_cmp (os_lt hr.units) (se_var 8) se_int) (sb_one (ss_set 12 sc__law_b_deeds.nd (se_op os_mod (se_op os_div (se_var 7) se_int) (se_var 5)))) sb_nil)
    (sb_cons (ss_if (st_cmp (os_eq hr.units) (se_var 12) (se_var 9)) (sb_one (ss_set 12 sc__law_b_deeds.nd (se_var 5))) sb_nil)
    (sb_one (ss_sub (se_op os_add (se_ix (se_ix (se_var 0) (se_var 9)) (se_var 12)) (se_callB (cs_min rfl) rfl T.b_min boot_min (sa_cons (se_var 11) (sa_cons (se_var 10) sa_nil)))) (se_ix (se_var 0) (se_var 9)) (se_var 12)))))))))))))))
    (sb_one (ss_ret (se_var 0)))))
def e__law_b_tuples_1:ME:=(mCall cTuple (mCons (mVar 0) mNil))
def m__law_b_tuples:MS:=(mRet (mCall cTuple (mCons (mVal (mCompN [none] (gaName 0) (mSeq (mVar 0)) mTrue e__law_b_tuples_1)) mNil)))
def F__law_b_tuples:FN:=callF m__law_b_tuples 1
theorem sc__law_b_tuples:FnScope ["rows"] ["rows"] (defScope s__law_b_tuples):=⟨rfl,rfl,rfl,by decide +kernel,rfl,by decide +kernel,by decide +kernel⟩
theorem ok__law_b_tuples {f:Addr} {fd:FuncData} (F:Fun K "_law_b_tuples" "_law_b_tuples" s__law_b_tuples f fd) (T:Txt mg)   : FnOk P w K mg base (CXD P w) 1 f fd ["rows"] (spF mg 1 F__law_b_tuples):=by
  refine fun_ok2 (k:=0) (m:=m__law_b_tuples) F sc__law_b_tuples rfl rfl rfl fun cdv A outer s H E hr=>?_
  exact (sb_one (ss_ret (se_callT cs_tuple rfl T.b_tuple boot_tuple (sa_cons (se_val (sn_comp [none] ["row"] rfl (si_seq (se_var 0)) (fun _ _ _ _ _=>(sg_name (i:=0) (show (["row"]:List Str).Nodup by decide +kernel))) (fun _ _ _ _ _=>(se_callT cs_tuple rfl T.b_tuple boot_tuple (sa_cons (se_var 0) sa_nil))) (fun _ _ _ _ _=>sts_nil) free_name)) sa_nil))))
def e__law_b_comes_1:ME:=(mOp (oI fun a b=>.bl (decide (b < a))) (mOp oIx (mOp oIx (mVar 1) (mVar 0)) (mVar 0)) (mC (.int 0)))
def b__law_b_comes_3:MS:=(mIfS (tAndM (toB (mOp oIx (mVar 2) (mVar 4))) (tAndM (toB (mOp oNe (mVar 4) (mVar 5))) (toB (mOp (oI fun a b=>.bl (decide (b < a))) (mOp oIx (mOp oIx (mVar 0) (mVar 4)) (mVar 5)) (mC (.int 0)))))) (mSetIx (mVar 2) (mVar 5) (mC (.bl true))) mNext)
def b__law_b_comes_2:MS:=(mFor (gaName 5) (mRange1 (mCons (mVar 1) mNil)) b__law_b_comes_3)
def b__law_b_comes_1:MS:=(mFor (gaName 4) (mRange1 (mCons (mVar 1) mNil)) b__law_b_comes_2)
def e__law_b_comes_2:ME:=(mOp (oI fun a b=>.bl (decide (b < a))) (mOp oIx (mOp oIx (mVar 1) (mVar 2)) (mVar 0)) (mC (.int 0)))
def t__law_b_comes_2:MT:=(toB (mOp oNe (mVar 0) (mVar 2)))
def b__law_b_comes_4 : MS := (mSeqS (mSet 7 (mCall (cBls fun ns => .bl (ns.any id)) (mCons (mVal (mCompN [none, some 0, some 6] (gaName 0) (mRange1 (mCons (mOp oAdd (mVar 1) (mC (.int 1))) mNil)) t__law_b_comes_2 e__law_b_comes_2)) mNil)))
    (mIfS (tOrM (toB (mOp oLt (mCallF 2 F__law_b_rights (mCons (mVar 0) (mCons (mVar 6) mNil))) (mC (.int 0)))) (tAndM (toB (mVar 7)) (tNotM (toB (mOp oIx (mVar 2) (mVar 6)))))) (mRet (mC (.bl false))) mNext))
def m__law_b_comes : MS := (mSeqS (mSet 1 (mCall cLen (mCons (mVar 0) mNil)))
    (mSeqS (mSet 2 (mTrk (mCompN [none,some 0] (gaName 0) (mRange1 (mCons (mVar 1) mNil)) mTrue e__law_b_comes_1)))
    (mSeqS (mFor (gaName 3) (mRange1 (mCons (mVar 1) mNil)) b__law_b_comes_1)
    (mSeqS (mFor (gaName 6) (mRange1 (mCons (mVar 1) mNil)) b__law_b_comes_4)
    (mRet (mC (.bl true)))))))
def F__law_b_comes:FN:=callF m__law_b_comes 8
theorem sc__law_b_comes:FnScope ["table", "n", "known", "turn", "i", "j", "house", "busy"] ["table"] (defScope s__law_b_comes):=⟨rfl,rfl,rfl,by decide +kernel,rfl,by decide +kernel,by decide +kernel⟩
theorem ok__law_b_comes {f:Addr} {fd:FuncData} (F:Fun K "_law_b_comes" "_law_b_comes" s__law_b_comes f fd) (T:Txt mg)  (D__law_b_rights:DefS P w K mg base 1 "_law_b_rights" 2 F__law_b_rights):FnOk P w K mg base (CXD P w) 2 f fd ["table"] (spF mg 1 F__law_b_comes):=by
  refine fun_ok2 (k:=1) (m:=m__law_b_comes) F sc__law_b_comes rfl rfl rfl fun cdv A outer s H E hr=>?_
  exact (sb_cons (ss_set 1 sc__law_b_comes.nd (se_callB cs_len rfl T.b_len PySem.boot_len (sa_cons (se_var 0) sa_nil)))
    (sb_cons (by first | exact ss_compT [none,some 0] ["house", "table"] 2 sc__law_b_comes.nd rfl (si_range1 rfl T.b_range (sa_cons (se_var 1) sa_nil)) (fun _ _ _ _ _=>(sg_name (i:=0) (show (["house", "table"]:List Str).Nodup by decide +kernel))) (fun _ _ _ _ _=>(se_cmp os_gt (se_ix (se_ix (se_var 1) (se_var 0)) (se_var 0)) se_int)) (fun _ _ _ _ _=>sts_nil) free_name | exact ss_set 2 sc__law_b_comes.nd (se_trk (sn_comp [none,some 0] ["house", "table"] rfl (si_range1 rfl T.b_range (sa_cons (se_var 1) sa_nil)) (fun _ _ _ _ _=>(sg_name (i:=0) (show (["house", "table"]:List Str).Nodup by decide +kernel))) (fun _ _ _ _ _=>(se_cmp os_gt (se_ix (se_ix (se_var 1) (se_var 0)) (se_var 0)) se_int)) (fun _ _ _ _ _=>sts_nil) free_name)))
    (sb_cons (ss_for PassesOwn.leaving rfl (si_range1 rfl T.b_range (sa_cons (se_var 1) sa_nil)) (sg_name (i:=3) sc__law_b_comes.nd) (sb_one (ss_for PassesOwn.leaving rfl (si_range1 rfl T.b_range (sa_cons (se_var 1) sa_nil)) (sg_name (i:=4) sc__law_b_comes.nd) (sb_one (ss_for PassesOwn.leaving rfl (si_range1 rfl T.b_range (sa_cons (se_var 1) sa_nil)) (sg_name (i:=5) sc__law_b_comes.nd) (sb_one (ss_if (SimW.t (sw_and (st_val (se_ix (se_var 2) (se_var 4))) (sw_and (st_cmp (os_ne hr.units) (se_var 4) (se_var 5)) (sw_and1 (st_cmp os_gt (se_ix (se_ix (se_var 0) (se_var 4)) (se_var 5)) se_int))))) (sb_one (ss_sub se_bl (se_var 2) (se_var 5))) sb_nil)))))))
    (sb_cons (ss_for PassesOwn.leaving rfl (si_range1 rfl T.b_range (sa_cons (se_var 1) sa_nil)) (sg_name (i:=6) sc__law_b_comes.nd) (sb_cons (ss_set 7 sc__law_b_comes.nd (se_callB (cs_any rfl) rfl T.b_any boot_any (sa_cons (se_val (sn_comp [none,some 0,some 6] ["j", "table", "house"] rfl (si_range1 rfl T.b_range (sa_cons (se_op os_add (se_var 1) se_int) sa_nil)) (fun _ _ _ _ _=>(sg_name (i:=0) (show (["j", "table", "house"]:List Str).Nodup by decide +kernel))) (fun _ _ _ _ _=>(se_cmp os_gt (se_ix (se_ix (se_var 1) (se_var 2)) (se_var 0)) se_int)) (fun _ _ _ _ _=>(sts_one (st_cmp (os_ne hr.units) (se_var 0) (se_var 2)))) free_name)) sa_nil)))
    (sb_one (ss_if (SimW.t (sw_or (st_cmp (os_lt hr.units) (se_call D__law_b_rights (hr.mono (by decide)) pass_onD rfl (sa_cons (se_var 0) (sa_cons (se_var 6) sa_nil))) se_int) (sw_or1 (SimW.t (sw_and (st_val (se_var 7)) (sw_and1 (st_not (st_val (se_ix (se_var 2) (se_var 6)))))))))) (sb_one (ss_ret se_bl)) sb_nil))))
    (sb_one (ss_ret se_bl))))))
def b__law_b_pool_1 : MS := (mSeqS (mIfS (toB (mOp oEq (mOp oMod (mVar 3) (mC (.int 2))) (mC (.int 1)))) (mExpr (mBM mtAppend (mVar 2) (mCons (mVar 4) mNil))) mNext)
    (mSet 3 (mOp oDiv (mVar 3) (mC (.int 2)))))
def m__law_b_pool : MS := (mSeqS (mSet 2 (mTrk (mLstN mNil)))
    (mSeqS (mSet 3 (mVar 1))
    (mSeqS (mFor (gaName 4) (mRange1 (mCons (mVar 0) mNil)) b__law_b_pool_1)
    (mSeqS (mIfS (toB (mOp oEq (mVar 2) (mLst mNil))) (mSet 2 (mTrk (mLstN (mCons (mOp oMod (mOp oDiv (mVar 1) (mC (.int 2))) (mVar 0)) mNil)))) mNext)
    (mRet (mCall cTuple (mCons (mVar 2) mNil)))))))
def F__law_b_pool:FN:=callF m__law_b_pool 5
theorem sc__law_b_pool:FnScope ["n", "draw", "some", "rest", "house"] ["n", "draw"] (defScope s__law_b_pool):=⟨rfl,rfl,rfl,by decide +kernel,rfl,by decide +kernel,by decide +kernel⟩
theorem ok__law_b_pool {f:Addr} {fd:FuncData} (F:Fun K "_law_b_pool" "_law_b_pool" s__law_b_pool f fd) (T:Txt mg)   : FnOk P w K mg base (CXD P w) 1 f fd ["n", "draw"] (spF mg 2 F__law_b_pool):=by
  refine fun_ok2 (k:=0) (m:=m__law_b_pool) F sc__law_b_pool rfl rfl rfl fun cdv A outer s H E hr=>?_
  exact (sb_cons (ss_set 2 sc__law_b_pool.nd (se_trk (sn_lst sa_nil)))
    (sb_cons (ss_set 3 sc__law_b_pool.nd (se_var 1))
    (sb_cons (ss_for PassesOwn.leaving rfl (si_range1 rfl T.b_range (sa_cons (se_var 0) sa_nil)) (sg_name (i:=4) sc__law_b_pool.nd) (sb_cons (ss_if (st_cmp (os_eq hr.units) (se_op os_mod (se_var 3) se_int) se_int) (sb_one (ss_expr (se_append (se_var 2) (sa_cons (se_var 4) sa_nil)))) sb_nil)
    (sb_one (ss_set 3 sc__law_b_pool.nd (se_op os_div (se_var 3) se_int)))))
    (sb_cons (ss_if (st_cmp (os_eq hr.units) (se_var 2) (se_lst sa_nil)) (sb_one (ss_set 2 sc__law_b_pool.nd (se_trk (sn_lst (sa_cons (se_op os_mod (se_op os_div (se_var 1) se_int) (se_var 0)) sa_nil))))) sb_nil)
    (sb_one (ss_ret (se_callT cs_tuple rfl T.b_tuple boot_tuple (sa_cons (se_var 2) sa_nil))))))))
def m__law_b_asked : MS := (mSeqS (mIfS (toB (mOp oEq (mVar 0) (mC (.int 0)))) (mRet (mCallF 2 F_least_stock (mCons (mVar 1) (mCons (mVar 2) mNil)))) mNext)
    (mSeqS (mIfS (toB (mOp oEq (mVar 0) (mC (.int 1)))) (mRet (mCallF 3 F_may_use (mCons (mVar 1) (mCons (mVar 2) (mCons (mVar 3) mNil))))) mNext)
    (mSeqS (mIfS (toB (mOp oEq (mVar 0) (mC (.int 2)))) (mRet (mCallF 3 F_is_world (mCons (mVar 1) (mCons (mVar 2) (mCons (mVar 4) mNil))))) mNext)
    (mRet (mCallF 4 F_shows_must (mCons (mVar 1) (mCons (mVar 2) (mCons (mVar 3) (mCons (mVar 4) mNil)))))))))
def F__law_b_asked:FN:=callF m__law_b_asked 5
theorem sc__law_b_asked:FnScope ["door", "table", "pool", "k", "world"] ["door", "table", "pool", "k", "world"] (defScope s__law_b_asked):=⟨rfl,rfl,rfl,by decide +kernel,rfl,by decide +kernel,by decide +kernel⟩
theorem ok__law_b_asked {f:Addr} {fd:FuncData} (F:Fun K "_law_b_asked" "_law_b_asked" s__law_b_asked f fd) (T:Txt mg)  (D_least_stock:DefS P w K mg base 9 "least_stock" 2 F_least_stock) (D_may_use:DefS P w K mg base 9 "may_use" 3 F_may_use) (D_is_world:DefS P w K mg base 9 "is_world" 3 F_is_world) (D_shows_must:DefS P w K mg base 10 "shows_must" 4 F_shows_must):FnOk P w K mg base (CXD P w) 11 f fd ["door", "table", "pool", "k", "world"] (spF mg 5 F__law_b_asked):=by
  refine fun_ok2 (k:=10) (m:=m__law_b_asked) F sc__law_b_asked rfl rfl rfl fun cdv A outer s H E hr=>?_
  exact (sb_cons (ss_if (st_cmp (os_eq hr.units) (se_var 0) se_int) (sb_one (ss_ret (se_call D_least_stock (hr.mono (by decide)) pass_onD rfl (sa_cons (se_var 1) (sa_cons (se_var 2) sa_nil))))) sb_nil)
    (sb_cons (ss_if (st_cmp (os_eq hr.units) (se_var 0) se_int) (sb_one (ss_ret (se_call D_may_use (hr.mono (by decide)) pass_onD rfl (sa_cons (se_var 1) (sa_cons (se_var 2) (sa_cons (se_var 3) sa_nil)))))) sb_nil)
    (sb_cons (ss_if (st_cmp (os_eq hr.units) (se_var 0) se_int) (sb_one (ss_ret (se_call D_is_world (hr.mono (by decide)) pass_onD rfl (sa_cons (se_var 1) (sa_cons (se_var 2) (sa_cons (se_var 4) sa_nil)))))) sb_nil)
    (sb_one (ss_ret (se_call D_shows_must (hr.mono (by decide)) pass_onD rfl (sa_cons (se_var 1) (sa_cons (se_var 2) (sa_cons (se_var 3) (sa_cons (se_var 4) sa_nil))))))))))
structure Nms (mg:Str->Option Value) (c:Nat->Addr):Prop where
  m0:mg "WharfError" = some (.ref (c 0))
  m1:mg "NoTable" = some (.ref (c 1))
  m2:mg "NoHouse" = some (.ref (c 2))
  m3:mg "NoDeed" = some (.ref (c 3))
  m4:mg "NoLetter" = some (.ref (c 4))
  m5:mg "NoStand" = some (.ref (c 5))
  m6:mg "NoRoad" = some (.ref (c 6))
  m7:mg "NoPlan" = some (.ref (c 7))
  m8:mg "NoBook" = some (.ref (c 8))
  m9:mg "NoManner" = some (.ref (c 9))
  m10:mg "TooMany" = some (.ref (c 10))
  m11:mg "NoText" = some (.ref (c 11))
  m12:mg "NoRow" = some (.ref (c 12))
  m13:mg "NoName" = some (.ref (c 13))
  m14:mg "Short" = some (.ref (c 14))
  ve:mg "ValueError" = none
  an:mg "any" = none
  isi:mg "isinstance" = none
structure TgtS (K:PySem.W.Frag) (c:Nat->Addr) (t:Nat):Prop where
  xc:XCls K (c t)
  ve:PySem.W.kitOne K (.ref (c t)) (.type "ValueError")=some true
  ex:PySem.W.exmOne K (.ref (c t)) (.ref (c 0))=some true
  k:∀ i,1<=i->i<=14->PySem.W.kitOne K (.ref (c t)) (.ref (c i))=some (decide (i=t))
theorem boot_ValueError:bootBuiltins "ValueError" = some (.type "ValueError"):=by decide +kernel
theorem keepE {H:Hp} {e p:Addr} {v o:HO} (h:H e=some v) (hp:H p=none):upd H p o e=some v:=by
  rw [upd_ne fun z=>by rw [z,hp] at h; cases h]; exact h
theorem sqk_of {K:PySem.W.Frag} {H:Hp} {a:Addr} {xs:List V} (h:H a=some (.lst xs)):SqK K false H a xs:=by
  unfold SqK; rw [if_neg (by decide)]; exact .inl (.inl h)
theorem noB (bs:List Bool) (j:Nat) (h:(bs.take j).all (fun b=>!b)=true) (hl:j<=bs.length):∀ m,m < j->bs[m]?=some false:=fun m hm=>by
  have hb:m < bs.length:=by omega
  have:=List.all_eq_true.mp h (bs[m]) (List.mem_take_iff_getElem.mpr ⟨m,by omega,rfl⟩)
  rw [List.getElem?_eq_getElem hb]
  cases q:bs[m] with
  | false=>rfl
  | true=>rw [q] at this; cases this
def F__law_b_told:FN:=fun ps st=>match F__law_b_asked ps st with
  | .ok v st1=>.ok (.str "told") st1
  | .exc x st1=>if x.cls = "NoTable" then .ok (.str "table") st1 else if x.cls = "NoHouse" then .ok (.str "house") st1 else .stuck
  | .stuck=>.stuck
theorem sc__law_b_told:FnScope ["door", "table", "pool", "k", "world", "told", "e", "others", "known"] ["door", "table", "pool", "k", "world"] (defScope s__law_b_told):=⟨rfl,rfl,rfl,by decide +kernel,rfl,by decide +kernel,by decide +kernel⟩
theorem ok__law_b_told {f:Addr} {fd:FuncData} {c:Nat->Addr} (F:Fun K "_law_b_told" "_law_b_told" s__law_b_told f fd) (T:Txt mg) (Nm:Nms mg c) (T1:TgtS K c 1) (T2:TgtS K c 2) (D__law_b_asked:DefS P w K mg base 11 "_law_b_asked" 5 F__law_b_asked):FnOk P w K mg base (CXD P w) 12 f fd ["door", "table", "pool", "k", "world"] (spF mg 5 F__law_b_told):=by
  obtain ⟨fR,fdR,psR,FR,mR,kR,bR,lR⟩:=D__law_b_asked.ex
  refine Fun.okD F sc__law_b_told (fun vs H Q E h=>h.1) fun cdv A outer s H vs Q E hr hsp=>?_
  obtain ⟨hl,ρ,st0,pvs,R,rl,hA⟩:=hsp
  refine ⟨_,pss_cons (ps_set (i:=5) sc__law_b_told.nd rfl (Or.inl rfl) (pe_str))
      (pss_cons (ps_tryEDa FR hr mR kR bR (pa_cons (pv 0) (pa_cons (pv 1) (pa_cons (pv 2) (pa_cons (pv 3) (pa_cons (pv 4) pa_nil))))) sc__law_b_told.nd (i:=6) rfl rfl (fun e=>pss_cons (ps_set (i:=7) sc__law_b_told.nd rfl (Or.inl rfl) (pe_lst (pa_cons (pe_callB (call_isxD K) (by rfl) Nm.isi boot_isinstance (pa_cons (pv 6) (pa_cons (pe_glob (v:=.ref (c 3)) (by rfl) Nm.m3 rfl) pa_nil))) (pa_cons (pe_callB (call_isxD K) (by rfl) Nm.isi boot_isinstance (pa_cons (pv 6) (pa_cons (pe_glob (v:=.ref (c 10)) (by rfl) Nm.m10 rfl) pa_nil))) (pa_cons (pe_callB (call_isxD K) (by rfl) Nm.isi boot_isinstance (pa_cons (pv 6) (pa_cons (pe_glob (v:=.ref (c 4)) (by rfl) Nm.m4 rfl) pa_nil))) (pa_cons (pe_callB (call_isxD K) (by rfl) Nm.isi boot_isinstance (pa_cons (pv 6) (pa_cons (pe_glob (v:=.ref (c 5)) (by rfl) Nm.m5 rfl) pa_nil))) pa_nil))))))
        (pss_cons (ps_set (i:=7) sc__law_b_told.nd rfl (Or.inl rfl) (pe_op op_cat (pv 7) (pe_lst (pa_cons (pe_callB (call_isxD K) (by rfl) Nm.isi boot_isinstance (pa_cons (pv 6) (pa_cons (pe_glob (v:=.ref (c 6)) (by rfl) Nm.m6 rfl) pa_nil))) (pa_cons (pe_callB (call_isxD K) (by rfl) Nm.isi boot_isinstance (pa_cons (pv 6) (pa_cons (pe_glob (v:=.ref (c 7)) (by rfl) Nm.m7 rfl) pa_nil))) (pa_cons (pe_callB (call_isxD K) (by rfl) Nm.isi boot_isinstance (pa_cons (pv 6) (pa_cons (pe_glob (v:=.ref (c 8)) (by rfl) Nm.m8 rfl) pa_nil))) (pa_cons (pe_callB (call_isxD K) (by rfl) Nm.isi boot_isinstance (pa_cons (pv 6) (pa_cons (pe_glob (v:=.ref (c 9)) (by rfl) Nm.m9 rfl) pa_nil))) pa_nil)))))))
        (pss_cons (ps_set (i:=7) sc__law_b_told.nd rfl (Or.inl rfl) (pe_op op_cat (pv 7) (pe_lst (pa_cons (pe_callB (call_isxD K) (by rfl) Nm.isi boot_isinstance (pa_cons (pv 6) (pa_cons (pe_glob (v:=.ref (c 11)) (by rfl) Nm.m11 rfl) pa_nil))) (pa_cons (pe_callB (call_isxD K) (by rfl) Nm.isi boot_isinstance (pa_cons (pv 6) (pa_cons (pe_glob (v:=.ref (c 12)) (by rfl) Nm.m12 rfl) pa_nil))) (pa_cons (pe_callB (call_isxD K) (by rfl) Nm.isi boot_isinstance (pa_cons (pv 6) (pa_cons (pe_glob (v:=.ref (c 13)) (by rfl) Nm.m13 rfl) pa_nil))) (pa_cons (pe_callB (call_isxD K) (by rfl) Nm.isi boot_isinstance (pa_cons (pv 6) (pa_cons (pe_glob (v:=.ref (c 14)) (by rfl) Nm.m14 rfl) pa_nil))) pa_nil)))))))
        (pss_cons (ps_set (i:=8) sc__law_b_told.nd rfl (Or.inl rfl) (pe_lst (pa_cons (pe_callB (call_isxD K) (by rfl) Nm.isi boot_isinstance (pa_cons (pv 6) (pa_cons (pe_glob (v:=.ref (c 1)) (by rfl) Nm.m1 rfl) pa_nil))) (pa_cons (pe_callB (call_isxD K) (by rfl) Nm.isi boot_isinstance (pa_cons (pv 6) (pa_cons (pe_glob (v:=.ref (c 2)) (by rfl) Nm.m2 rfl) pa_nil))) pa_nil))))
        (pss_cons (ps_set (i:=5) sc__law_b_told.nd rfl (Or.inl rfl) (pe_str))
        (pss_one (ps_if (PW.pt (pw_and (pt_not (pt_val (pe_callB (call_anyH e rfl) (by rfl) Nm.an boot_any (pa_cons (pv 7) pa_nil)))) (pw_and (pt_cmpR op_eq (pe_bm PySem.F.plainAttrs_list PySem.F.slot_list_count PySem.F.type_list_count mt_countB (pv 8) (pa_cons pe_bl pa_nil)) pe_int (nomark _)) (pw_and1 (pt_val (pe_callB (call_isxD K) (by rfl) Nm.isi boot_isinstance (pa_cons (pv 6) (pa_cons (pe_bltn (v:=.ty "ValueError") (by rfl) Nm.ve boot_ValueError rfl) pa_nil)))))))) (pss_one (ps_set (i:=5) sc__law_b_told.nd rfl (Or.inl rfl) (pe_ix ix_list (pe_lst (pa_cons pe_str (pa_cons pe_str pa_nil))) (pe_bm PySem.F.plainAttrs_list PySem.F.slot_list_index PySem.F.type_list_index mt_indexB (pv 8) (pa_cons pe_bl pa_nil)) (fun _ _=>rfl)))) pss_nil))))))) Nm.m0)
      (pss_one (ps_ret (pv 5)))),?_⟩
  match vs,hl with
  | [v0,v1,v2,v3,v4],_=>
  refine ⟨_,rfl,_,rfl,_,rfl,_,rfl,_,rfl,  rfl,ρ,st0,pvs,R,rl,?_⟩
  unfold F__law_b_told at hA
  cases hr:F__law_b_asked pvs st0 with
  | ok a st1=>
    rw [hr] at hA
    exact fun H1 ρ1 x1 R1 v r=>⟨_,rfl,hA H1 ρ1 x1 R1 _ rfl⟩
  | stuck=>rw [hr] at hA; exact hA.elim
  | exc x st1=>
    rw [hr] at hA
    dsimp only at hA
    by_cases hx1:x.cls = "NoTable"
    · rw [if_pos hx1] at hA
      intro C dv H1 ρ1 hm x1 R1 fs
      rw [hx1,Nm.m1] at hm
      cases hm
      refine ⟨_,rfl,T1.ex,fun e he=>?_⟩
      obtain ⟨H2,e2⟩:∃ H2,upd H1 e (.ext (IsXD e (c 1) dv))=H2:=⟨_,rfl⟩
      have hE2:H2 e=some (.ext (IsXD e (c 1) dv)):=e2 ▸ upd_same
      have x2:Ext H1 ρ1 H2 ρ1:=e2 ▸ Ext.add he
      have R2:Rel H2 ρ1 st1:=e2 ▸ R1.add he
      rw [e2]
      refine ⟨_,rfl,e,_,_,_,_,false,rfl,rfl,hE2,T1.xc,T1.k 3 (by decide) (by decide),?_⟩
      refine ⟨_,rfl,e,_,_,_,_,false,rfl,rfl,hE2,T1.xc,T1.k 10 (by decide) (by decide),?_⟩
      refine ⟨_,rfl,e,_,_,_,_,false,rfl,rfl,hE2,T1.xc,T1.k 4 (by decide) (by decide),?_⟩
      refine ⟨_,rfl,e,_,_,_,_,false,rfl,rfl,hE2,T1.xc,T1.k 5 (by decide) (by decide),?_⟩
      refine ⟨by decide,fun p1 hp1=>?_⟩
      obtain ⟨H3,e3⟩:∃ H3,upd H2 p1 (.lst [.bl false,.bl false,.bl false,.bl false])=H3:=⟨_,rfl⟩
      have hE3:H3 e=some (.ext (IsXD e (c 1) dv)):=e3 ▸ keepE hE2 hp1
      have x3:Ext H1 ρ1 H3 ρ1:=e3 ▸ x2.trans (Ext.add hp1)
      have R3:Rel H3 ρ1 st1:=e3 ▸ R2.add hp1
      have np1:H3 p1=some (.lst [.bl false,.bl false,.bl false,.bl false]):=e3 ▸ upd_same
      rw [show upd H2 p1 (.lst (_))=H3 from e3]
      refine ⟨_,rfl,?_⟩
      refine ⟨_,rfl,e,_,_,_,_,false,rfl,rfl,hE3,T1.xc,T1.k 6 (by decide) (by decide),?_⟩
      refine ⟨_,rfl,e,_,_,_,_,false,rfl,rfl,hE3,T1.xc,T1.k 7 (by decide) (by decide),?_⟩
      refine ⟨_,rfl,e,_,_,_,_,false,rfl,rfl,hE3,T1.xc,T1.k 8 (by decide) (by decide),?_⟩
      refine ⟨_,rfl,e,_,_,_,_,false,rfl,rfl,hE3,T1.xc,T1.k 9 (by decide) (by decide),?_⟩
      refine ⟨by decide,fun p2 hp2=>?_⟩
      obtain ⟨H4,e4⟩:∃ H4,upd H3 p2 (.lst [.bl false,.bl false,.bl false,.bl false])=H4:=⟨_,rfl⟩
      have hE4:H4 e=some (.ext (IsXD e (c 1) dv)):=e4 ▸ keepE hE3 hp2
      have x4:Ext H1 ρ1 H4 ρ1:=e4 ▸ x3.trans (Ext.add hp2)
      have R4:Rel H4 ρ1 st1:=e4 ▸ R3.add hp2
      have np2:H4 p2=some (.lst [.bl false,.bl false,.bl false,.bl false]):=e4 ▸ upd_same
      have kp1_4:H4 p1=some (.lst [.bl false,.bl false,.bl false,.bl false]):=e4 ▸ keepE np1 hp2
      rw [show upd H3 p2 (.lst (_))=H4 from e4]
      refine ⟨_,_,_,_,rfl,rfl,kp1_4,np2,by decide,fun p3 hp3=>?_⟩
      obtain ⟨H5,e5⟩:∃ H5,upd H4 p3 (.lst [.bl false,.bl false,.bl false,.bl false,.bl false,.bl false,.bl false,.bl false])=H5:=⟨_,rfl⟩
      have hE5:H5 e=some (.ext (IsXD e (c 1) dv)):=e5 ▸ keepE hE4 hp3
      have x5:Ext H1 ρ1 H5 ρ1:=e5 ▸ x4.trans (Ext.add hp3)
      have R5:Rel H5 ρ1 st1:=e5 ▸ R4.add hp3
      have np3:H5 p3=some (.lst [.bl false,.bl false,.bl false,.bl false,.bl false,.bl false,.bl false,.bl false]):=e5 ▸ upd_same
      have kp1_5:H5 p1=some (.lst [.bl false,.bl false,.bl false,.bl false]):=e5 ▸ keepE kp1_4 hp3
      rw [show upd H4 p3 (.lst ([.bl false,.bl false,.bl false,.bl false] ++ [.bl false,.bl false,.bl false,.bl false]))=H5 from e5]
      refine ⟨_,rfl,?_⟩
      refine ⟨_,rfl,e,_,_,_,_,false,rfl,rfl,hE5,T1.xc,T1.k 11 (by decide) (by decide),?_⟩
      refine ⟨_,rfl,e,_,_,_,_,false,rfl,rfl,hE5,T1.xc,T1.k 12 (by decide) (by decide),?_⟩
      refine ⟨_,rfl,e,_,_,_,_,false,rfl,rfl,hE5,T1.xc,T1.k 13 (by decide) (by decide),?_⟩
      refine ⟨_,rfl,e,_,_,_,_,false,rfl,rfl,hE5,T1.xc,T1.k 14 (by decide) (by decide),?_⟩
      refine ⟨by decide,fun p4 hp4=>?_⟩
      obtain ⟨H6,e6⟩:∃ H6,upd H5 p4 (.lst [.bl false,.bl false,.bl false,.bl false])=H6:=⟨_,rfl⟩
      have hE6:H6 e=some (.ext (IsXD e (c 1) dv)):=e6 ▸ keepE hE5 hp4
      have x6:Ext H1 ρ1 H6 ρ1:=e6 ▸ x5.trans (Ext.add hp4)
      have R6:Rel H6 ρ1 st1:=e6 ▸ R5.add hp4
      have np4:H6 p4=some (.lst [.bl false,.bl false,.bl false,.bl false]):=e6 ▸ upd_same
      have kp3_6:H6 p3=some (.lst [.bl false,.bl false,.bl false,.bl false,.bl false,.bl false,.bl false,.bl false]):=e6 ▸ keepE np3 hp4
      rw [show upd H5 p4 (.lst (_))=H6 from e6]
      refine ⟨_,_,_,_,rfl,rfl,kp3_6,np4,by decide,fun p5 hp5=>?_⟩
      obtain ⟨H7,e7⟩:∃ H7,upd H6 p5 (.lst [.bl false,.bl false,.bl false,.bl false,.bl false,.bl false,.bl false,.bl false,.bl false,.bl false,.bl false,.bl false])=H7:=⟨_,rfl⟩
      have hE7:H7 e=some (.ext (IsXD e (c 1) dv)):=e7 ▸ keepE hE6 hp5
      have x7:Ext H1 ρ1 H7 ρ1:=e7 ▸ x6.trans (Ext.add hp5)
      have R7:Rel H7 ρ1 st1:=e7 ▸ R6.add hp5
      have np5:H7 p5=some (.lst [.bl false,.bl false,.bl false,.bl false,.bl false,.bl false,.bl false,.bl false,.bl false,.bl false,.bl false,.bl false]):=e7 ▸ upd_same
      have kp3_7:H7 p3=some (.lst [.bl false,.bl false,.bl false,.bl false,.bl false,.bl false,.bl false,.bl false]):=e7 ▸ keepE kp3_6 hp5
      rw [show upd H6 p5 (.lst ([.bl false,.bl false,.bl false,.bl false,.bl false,.bl false,.bl false,.bl false] ++ [.bl false,.bl false,.bl false,.bl false]))=H7 from e7]
      refine ⟨_,rfl,e,_,_,_,_,true,rfl,rfl,hE7,T1.xc,T1.k 1 (by decide) (by decide),?_⟩
      refine ⟨_,rfl,e,_,_,_,_,false,rfl,rfl,hE7,T1.xc,T1.k 2 (by decide) (by decide),?_⟩
      refine ⟨by decide,fun p6 hp6=>?_⟩
      obtain ⟨H8,e8⟩:∃ H8,upd H7 p6 (.lst [.bl true,.bl false])=H8:=⟨_,rfl⟩
      have hE8:H8 e=some (.ext (IsXD e (c 1) dv)):=e8 ▸ keepE hE7 hp6
      have x8:Ext H1 ρ1 H8 ρ1:=e8 ▸ x7.trans (Ext.add hp6)
      have R8:Rel H8 ρ1 st1:=e8 ▸ R7.add hp6
      have np6:H8 p6=some (.lst [.bl true,.bl false]):=e8 ▸ upd_same
      have kp5_8:H8 p5=some (.lst [.bl false,.bl false,.bl false,.bl false,.bl false,.bl false,.bl false,.bl false,.bl false,.bl false,.bl false,.bl false]):=e8 ▸ keepE np5 hp6
      rw [show upd H7 p6 (.lst (_))=H8 from e8]
      refine ⟨_,rfl,_,_,_,[false,false,false,false,false,false,false,false,false,false,false,false],rfl,sqk_of kp5_8,hE8,false,rfl,iteT ?_⟩
      refine ⟨_,rfl,.inl ⟨rfl,_,.inl (.inl np6)⟩,_,[true,false],rfl,rfl,np6,rfl,_,rfl,iteT ?_⟩
      refine ⟨_,rfl,e,_,_,_,_,true,rfl,rfl,hE8,T1.xc,T1.ve,_,rfl,iteT ?_⟩
      refine ⟨by decide,fun p7 hp7=>?_⟩
      obtain ⟨H9,e9⟩:∃ H9,upd H8 p7 (.lst [.str "table",.str "house"])=H9:=⟨_,rfl⟩
      have hE9:H9 e=some (.ext (IsXD e (c 1) dv)):=e9 ▸ keepE hE8 hp7
      have x9:Ext H1 ρ1 H9 ρ1:=e9 ▸ x8.trans (Ext.add hp7)
      have R9:Rel H9 ρ1 st1:=e9 ▸ R8.add hp7
      have np7:H9 p7=some (.lst [.str "table",.str "house"]):=e9 ▸ upd_same
      have kp5_9:H9 p5=some (.lst [.bl false,.bl false,.bl false,.bl false,.bl false,.bl false,.bl false,.bl false,.bl false,.bl false,.bl false,.bl false]):=e9 ▸ keepE kp5_8 hp7
      have kp6_9:H9 p6=some (.lst [.bl true,.bl false]):=e9 ▸ keepE np6 hp7
      rw [show upd H8 p7 (.lst (_))=H9 from e9]
      refine ⟨_,rfl,.inl ⟨rfl,_,.inl (.inl kp6_9)⟩,_,[true,false],0,rfl,rfl,kp6_9,by decide,rfl,noB _ _ (by decide) (by decide),?_⟩
      refine ⟨_,_,_,_,rfl,rfl,.inl (.inl np7),rfl,?_⟩
      exact ⟨_,rfl,hA _ _ (x1.trans x9) R9 _ rfl⟩
    · rw [if_neg hx1] at hA
      by_cases hx2:x.cls = "NoHouse"
      · rw [if_pos hx2] at hA
        intro C dv H1 ρ1 hm x1 R1 fs
        rw [hx2,Nm.m2] at hm
        cases hm
        refine ⟨_,rfl,T2.ex,fun e he=>?_⟩
        obtain ⟨H2,e2⟩:∃ H2,upd H1 e (.ext (IsXD e (c 2) dv))=H2:=⟨_,rfl⟩
        have hE2:H2 e=some (.ext (IsXD e (c 2) dv)):=e2 ▸ upd_same
        have x2:Ext H1 ρ1 H2 ρ1:=e2 ▸ Ext.add he
        have R2:Rel H2 ρ1 st1:=e2 ▸ R1.add he
        rw [e2]
        refine ⟨_,rfl,e,_,_,_,_,false,rfl,rfl,hE2,T2.xc,T2.k 3 (by decide) (by decide),?_⟩
        refine ⟨_,rfl,e,_,_,_,_,false,rfl,rfl,hE2,T2.xc,T2.k 10 (by decide) (by decide),?_⟩
        refine ⟨_,rfl,e,_,_,_,_,false,rfl,rfl,hE2,T2.xc,T2.k 4 (by decide) (by decide),?_⟩
        refine ⟨_,rfl,e,_,_,_,_,false,rfl,rfl,hE2,T2.xc,T2.k 5 (by decide) (by decide),?_⟩
        refine ⟨by decide,fun p1 hp1=>?_⟩
        obtain ⟨H3,e3⟩:∃ H3,upd H2 p1 (.lst [.bl false,.bl false,.bl false,.bl false])=H3:=⟨_,rfl⟩
        have hE3:H3 e=some (.ext (IsXD e (c 2) dv)):=e3 ▸ keepE hE2 hp1
        have x3:Ext H1 ρ1 H3 ρ1:=e3 ▸ x2.trans (Ext.add hp1)
        have R3:Rel H3 ρ1 st1:=e3 ▸ R2.add hp1
        have np1:H3 p1=some (.lst [.bl false,.bl false,.bl false,.bl false]):=e3 ▸ upd_same
        rw [show upd H2 p1 (.lst (_))=H3 from e3]
        refine ⟨_,rfl,?_⟩
        refine ⟨_,rfl,e,_,_,_,_,false,rfl,rfl,hE3,T2.xc,T2.k 6 (by decide) (by decide),?_⟩
        refine ⟨_,rfl,e,_,_,_,_,false,rfl,rfl,hE3,T2.xc,T2.k 7 (by decide) (by decide),?_⟩
        refine ⟨_,rfl,e,_,_,_,_,false,rfl,rfl,hE3,T2.xc,T2.k 8 (by decide) (by decide),?_⟩
        refine ⟨_,rfl,e,_,_,_,_,false,rfl,rfl,hE3,T2.xc,T2.k 9 (by decide) (by decide),?_⟩
        refine ⟨by decide,fun p2 hp2=>?_⟩
        obtain ⟨H4,e4⟩:∃ H4,upd H3 p2 (.lst [.bl false,.bl false,.bl false,.bl false])=H4:=⟨_,rfl⟩
        have hE4:H4 e=some (.ext (IsXD e (c 2) dv)):=e4 ▸ keepE hE3 hp2
        have x4:Ext H1 ρ1 H4 ρ1:=e4 ▸ x3.trans (Ext.add hp2)
        have R4:Rel H4 ρ1 st1:=e4 ▸ R3.add hp2
        have np2:H4 p2=some (.lst [.bl false,.bl false,.bl false,.bl false]):=e4 ▸ upd_same
        have kp1_4:H4 p1=some (.lst [.bl false,.bl false,.bl false,.bl false]):=e4 ▸ keepE np1 hp2
        rw [show upd H3 p2 (.lst (_))=H4 from e4]
        refine ⟨_,_,_,_,rfl,rfl,kp1_4,np2,by decide,fun p3 hp3=>?_⟩
        obtain ⟨H5,e5⟩:∃ H5,upd H4 p3 (.lst [.bl false,.bl false,.bl false,.bl false,.bl false,.bl false,.bl false,.bl false])=H5:=⟨_,rfl⟩
        have hE5:H5 e=some (.ext (IsXD e (c 2) dv)):=e5 ▸ keepE hE4 hp3
        have x5:Ext H1 ρ1 H5 ρ1:=e5 ▸ x4.trans (Ext.add hp3)
        have R5:Rel H5 ρ1 st1:=e5 ▸ R4.add hp3
        have np3:H5 p3=some (.lst [.bl false,.bl false,.bl false,.bl false,.bl false,.bl false,.bl false,.bl false]):=e5 ▸ upd_same
        have kp1_5:H5 p1=some (.lst [.bl false,.bl false,.bl false,.bl false]):=e5 ▸ keepE kp1_4 hp3
        rw [show upd H4 p3 (.lst ([.bl false,.bl false,.bl false,.bl false] ++ [.bl false,.bl false,.bl false,.bl false]))=H5 from e5]
        refine ⟨_,rfl,?_⟩
        refine ⟨_,rfl,e,_,_,_,_,false,rfl,rfl,hE5,T2.xc,T2.k 11 (by decide) (by decide),?_⟩
        refine ⟨_,rfl,e,_,_,_,_,false,rfl,rfl,hE5,T2.xc,T2.k 12 (by decide) (by decide),?_⟩
        refine ⟨_,rfl,e,_,_,_,_,false,rfl,rfl,hE5,T2.xc,T2.k 13 (by decide) (by decide),?_⟩
        refine ⟨_,rfl,e,_,_,_,_,false,rfl,rfl,hE5,T2.xc,T2.k 14 (by decide) (by decide),?_⟩
        refine ⟨by decide,fun p4 hp4=>?_⟩
        obtain ⟨H6,e6⟩:∃ H6,upd H5 p4 (.lst [.bl false,.bl false,.bl false,.bl false])=H6:=⟨_,rfl⟩
        have hE6:H6 e=some (.ext (IsXD e (c 2) dv)):=e6 ▸ keepE hE5 hp4
        have x6:Ext H1 ρ1 H6 ρ1:=e6 ▸ x5.trans (Ext.add hp4)
        have R6:Rel H6 ρ1 st1:=e6 ▸ R5.add hp4
        have np4:H6 p4=some (.lst [.bl false,.bl false,.bl false,.bl false]):=e6 ▸ upd_same
        have kp3_6:H6 p3=some (.lst [.bl false,.bl false,.bl false,.bl false,.bl false,.bl false,.bl false,.bl false]):=e6 ▸ keepE np3 hp4
        rw [show upd H5 p4 (.lst (_))=H6 from e6]
        refine ⟨_,_,_,_,rfl,rfl,kp3_6,np4,by decide,fun p5 hp5=>?_⟩
        obtain ⟨H7,e7⟩:∃ H7,upd H6 p5 (.lst [.bl false,.bl false,.bl false,.bl false,.bl false,.bl false,.bl false,.bl false,.bl false,.bl false,.bl false,.bl false])=H7:=⟨_,rfl⟩
        have hE7:H7 e=some (.ext (IsXD e (c 2) dv)):=e7 ▸ keepE hE6 hp5
        have x7:Ext H1 ρ1 H7 ρ1:=e7 ▸ x6.trans (Ext.add hp5)
        have R7:Rel H7 ρ1 st1:=e7 ▸ R6.add hp5
        have np5:H7 p5=some (.lst [.bl false,.bl false,.bl false,.bl false,.bl false,.bl false,.bl false,.bl false,.bl false,.bl false,.bl false,.bl false]):=e7 ▸ upd_same
        have kp3_7:H7 p3=some (.lst [.bl false,.bl false,.bl false,.bl false,.bl false,.bl false,.bl false,.bl false]):=e7 ▸ keepE kp3_6 hp5
        rw [show upd H6 p5 (.lst ([.bl false,.bl false,.bl false,.bl false,.bl false,.bl false,.bl false,.bl false] ++ [.bl false,.bl false,.bl false,.bl false]))=H7 from e7]
        refine ⟨_,rfl,e,_,_,_,_,false,rfl,rfl,hE7,T2.xc,T2.k 1 (by decide) (by decide),?_⟩
        refine ⟨_,rfl,e,_,_,_,_,true,rfl,rfl,hE7,T2.xc,T2.k 2 (by decide) (by decide),?_⟩
        refine ⟨by decide,fun p6 hp6=>?_⟩
        obtain ⟨H8,e8⟩:∃ H8,upd H7 p6 (.lst [.bl false,.bl true])=H8:=⟨_,rfl⟩
        have hE8:H8 e=some (.ext (IsXD e (c 2) dv)):=e8 ▸ keepE hE7 hp6
        have x8:Ext H1 ρ1 H8 ρ1:=e8 ▸ x7.trans (Ext.add hp6)
        have R8:Rel H8 ρ1 st1:=e8 ▸ R7.add hp6
        have np6:H8 p6=some (.lst [.bl false,.bl true]):=e8 ▸ upd_same
        have kp5_8:H8 p5=some (.lst [.bl false,.bl false,.bl false,.bl false,.bl false,.bl false,.bl false,.bl false,.bl false,.bl false,.bl false,.bl false]):=e8 ▸ keepE np5 hp6
        rw [show upd H7 p6 (.lst (_))=H8 from e8]
        refine ⟨_,rfl,_,_,_,[false,false,false,false,false,false,false,false,false,false,false,false],rfl,sqk_of kp5_8,hE8,false,rfl,iteT ?_⟩
        refine ⟨_,rfl,.inl ⟨rfl,_,.inl (.inl np6)⟩,_,[false,true],rfl,rfl,np6,rfl,_,rfl,iteT ?_⟩
        refine ⟨_,rfl,e,_,_,_,_,true,rfl,rfl,hE8,T2.xc,T2.ve,_,rfl,iteT ?_⟩
        refine ⟨by decide,fun p7 hp7=>?_⟩
        obtain ⟨H9,e9⟩:∃ H9,upd H8 p7 (.lst [.str "table",.str "house"])=H9:=⟨_,rfl⟩
        have hE9:H9 e=some (.ext (IsXD e (c 2) dv)):=e9 ▸ keepE hE8 hp7
        have x9:Ext H1 ρ1 H9 ρ1:=e9 ▸ x8.trans (Ext.add hp7)
        have R9:Rel H9 ρ1 st1:=e9 ▸ R8.add hp7
        have np7:H9 p7=some (.lst [.str "table",.str "house"]):=e9 ▸ upd_same
        have kp5_9:H9 p5=some (.lst [.bl false,.bl false,.bl false,.bl false,.bl false,.bl false,.bl false,.bl false,.bl false,.bl false,.bl false,.bl false]):=e9 ▸ keepE kp5_8 hp7
        have kp6_9:H9 p6=some (.lst [.bl false,.bl true]):=e9 ▸ keepE np6 hp7
        rw [show upd H8 p7 (.lst (_))=H9 from e9]
        refine ⟨_,rfl,.inl ⟨rfl,_,.inl (.inl kp6_9)⟩,_,[false,true],1,rfl,rfl,kp6_9,by decide,rfl,noB _ _ (by decide) (by decide),?_⟩
        refine ⟨_,_,_,_,rfl,rfl,.inl (.inl np7),rfl,?_⟩
        exact ⟨_,rfl,hA _ _ (x1.trans x9) R9 _ rfl⟩
      · rw [if_neg hx2] at hA
        exact hA.elim
def e__law_b_less_1:ME:=(mTrk (mListN (mVar 0)))
def b__law_b_less_2 : MS := (mIfS (tAndM (toB (mOp (oI fun a b => .bl (decide (b < a))) (mOp oIx (mOp oIx (mVar 1) (mVar 3)) (mVar 4)) (mC (.int 0)))) (toB (mOp (oI fun a b => .bl (decide (b < a))) (mVar 2) (mC (.int 0))))) (mSeqS (mSetIx (mOp oIx (mVar 1) (mVar 3)) (mVar 4) (mOp (oI fun a b => .int (a - b)) (mOp oIx (mOp oIx (mVar 1) (mVar 3)) (mVar 4)) (mC (.int 1))))
    (mSet 2 (mC (.int 0)))) mNext)
def b__law_b_less_1:MS:=(mFor (gaName 4) (mRange1 (mCons (mOp oAdd (mCall cLen (mCons (mVar 1) mNil)) (mC (.int 1))) mNil)) b__law_b_less_2)
def m__law_b_less : MS := (mSeqS (mSet 1 (mTrk (mCompN [none] (gaName 0) (mSeq (mVar 0)) mTrue e__law_b_less_1)))
    (mSeqS (mSet 2 (mC (.int 1)))
    (mSeqS (mFor (gaName 3) (mRange1 (mCons (mCall cLen (mCons (mVar 1) mNil)) mNil)) b__law_b_less_1)
    (mRet (mCallF 1 F__law_b_tuples (mCons (mVar 1) mNil))))))
def F__law_b_less:FN:=callF m__law_b_less 5
theorem sc__law_b_less:FnScope ["table", "rows", "left", "i", "j"] ["table"] (defScope s__law_b_less):=⟨rfl,rfl,rfl,by decide +kernel,rfl,by decide +kernel,by decide +kernel⟩
theorem ok__law_b_less {f:Addr} {fd:FuncData} (F:Fun K "_law_b_less" "_law_b_less" s__law_b_less f fd) (T:Txt mg)  (D__law_b_tuples:DefS P w K mg base 1 "_law_b_tuples" 1 F__law_b_tuples):FnOk P w K mg base (CXD P w) 2 f fd ["table"] (spF mg 1 F__law_b_less):=by
  refine fun_ok2 (k:=1) (m:=m__law_b_less) F sc__law_b_less rfl rfl rfl fun cdv A outer s H E hr=>?_
  exact (sb_cons (by first | exact ss_compT [none] ["row"] 1 sc__law_b_less.nd rfl (si_seq (se_var 0)) (fun _ _ _ _ _=>(sg_name (i:=0) (show (["row"]:List Str).Nodup by decide +kernel))) (fun _ _ _ _ _=>(se_trk (sn_list (se_var 0) rfl T.b_list))) (fun _ _ _ _ _=>sts_nil) free_name | exact ss_set 1 sc__law_b_less.nd (se_trk (sn_comp [none] ["row"] rfl (si_seq (se_var 0)) (fun _ _ _ _ _=>(sg_name (i:=0) (show (["row"]:List Str).Nodup by decide +kernel))) (fun _ _ _ _ _=>(se_trk (sn_list (se_var 0) rfl T.b_list))) (fun _ _ _ _ _=>sts_nil) free_name)))
    (sb_cons (ss_set 2 sc__law_b_less.nd se_int)
    (sb_cons (ss_for PassesOwn.leaving rfl (si_range1 rfl T.b_range (sa_cons (se_callB cs_len rfl T.b_len PySem.boot_len (sa_cons (se_var 1) sa_nil)) sa_nil)) (sg_name (i:=3) sc__law_b_less.nd) (sb_one (ss_for PassesOwn.leaving rfl (si_range1 rfl T.b_range (sa_cons (se_op os_add (se_callB cs_len rfl T.b_len PySem.boot_len (sa_cons (se_var 1) sa_nil)) se_int) sa_nil)) (sg_name (i:=4) sc__law_b_less.nd) (sb_one (ss_if (SimW.t (sw_and (st_cmp os_gt (se_ix (se_ix (se_var 1) (se_var 3)) (se_var 4)) se_int) (sw_and1 (st_cmp os_gt (se_var 2) se_int)))) (sb_cons (ss_sub (se_op os_sub (se_ix (se_ix (se_var 1) (se_var 3)) (se_var 4)) se_int) (se_ix (se_var 1) (se_var 3)) (se_var 4))
    (sb_one (ss_set 2 sc__law_b_less.nd se_int))) sb_nil)))))
    (sb_one (ss_ret (se_call D__law_b_tuples (hr.mono (by decide)) pass_onD rfl (sa_cons (se_var 1) sa_nil)))))))
def e__law_b_no_pool_1:ME:=(mOp (oI fun a b=>.int (a - b)) (mOp (oI fun a b=>.int (a - b)) (mVar 1) (mC (.int 1))) (mVar 0))
def m__law_b_no_pool : MS := (mSeqS (mSet 3 (mOp oMod (mOp oDiv (mVar 2) (mC (.int 64))) (mOp oPow (mC (.int 10)) (mC (.int 20)))))
    (mSeqS (mSet 4 (mLst (mCons (mTup mNil) (mCons (mOp oAdd (mVar 0) (mTup (mCons (mOp oIx (mVar 0) (mC (.int 0))) mNil))) (mCons (mOp oAdd (mVar 0) (mTup (mCons (mVar 1) mNil))) (mCons (mOp oAdd (mTup (mCons (mNeg (mC (.int 1))) mNil)) (mVar 0)) (mCons (mOp oAdd (mVar 0) (mTup (mCons (mOp oAdd (mVar 1) (mVar 3)) mNil))) (mCons (mOp oAdd (mTup (mCons (mOp (oI fun a b=>.int (a - b)) (mNeg (mC (.int 1))) (mVar 3)) mNil)) (mVar 0)) mNil))))))))
    (mSeqS (mSet 4 (mOp oAdd (mVar 4) (mLst (mCons (mOp oAdd (mRevT (mVar 0) (mNeg (mC (.int 1)))) (mTup (mCons (mOp oIx (mVar 0) (mNeg (mC (.int 1)))) mNil))) (mCons (mOp oAdd (mTR (mVar 1)) (mTup (mCons (mC (.int 0)) mNil))) (mCons (mCall cTuple (mCons (mVal (mCompN [none,some 1] (gaName 0) (mRange1 (mCons (mVar 1) mNil)) mTrue e__law_b_no_pool_1)) mNil)) mNil))))))
    (mRet (mOp oIx (mVar 4) (mOp oMod (mVar 2) (mC (.int 9))))))))
def F__law_b_no_pool:FN:=callF m__law_b_no_pool 5
theorem sc__law_b_no_pool:FnScope ["pool", "n", "draw", "far", "some"] ["pool", "n", "draw"] (defScope s__law_b_no_pool):=⟨rfl,rfl,rfl,by decide +kernel,rfl,by decide +kernel,by decide +kernel⟩
theorem ok__law_b_no_pool {f:Addr} {fd:FuncData} (F:Fun K "_law_b_no_pool" "_law_b_no_pool" s__law_b_no_pool f fd) (T:Txt mg)   : FnOk P w K mg base (CXD P w) 1 f fd ["pool", "n", "draw"] (spF mg 3 F__law_b_no_pool):=by
  refine fun_ok2 (k:=0) (m:=m__law_b_no_pool) F sc__law_b_no_pool rfl rfl rfl fun cdv A outer s H E hr=>?_
  exact (sb_cons (ss_set 3 sc__law_b_no_pool.nd (se_op os_mod (se_op os_div (se_var 2) se_int) (se_op os_pow se_int se_int)))
    (sb_cons (ss_set 4 sc__law_b_no_pool.nd (se_lst (sa_cons (se_tup sa_nil) (sa_cons (se_op os_add (se_var 0) (se_tup (sa_cons (se_ix (se_var 0) se_int) sa_nil))) (sa_cons (se_op os_add (se_var 0) (se_tup (sa_cons (se_var 1) sa_nil))) (sa_cons (se_op os_add (se_tup (sa_cons (se_neg se_int) sa_nil)) (se_var 0)) (sa_cons (se_op os_add (se_var 0) (se_tup (sa_cons (se_op os_add (se_var 1) (se_var 3)) sa_nil))) (sa_cons (se_op os_add (se_tup (sa_cons (se_op os_sub (se_neg se_int) (se_var 3)) sa_nil)) (se_var 0)) sa_nil))))))))
    (sb_cons (ss_set 4 sc__law_b_no_pool.nd (se_op os_add (se_var 4) (se_lst (sa_cons (se_op os_add (se_revT (se_var 0) (se_neg se_int)) (se_tup (sa_cons (se_ix (se_var 0) (se_neg se_int)) sa_nil))) (sa_cons (se_op os_add (se_trange (se_var 1) rfl rfl T.b_tuple rfl T.b_range) (se_tup (sa_cons se_int sa_nil))) (sa_cons (se_callT cs_tuple rfl T.b_tuple boot_tuple (sa_cons (se_val (sn_comp [none,some 1] ["k", "n"] rfl (si_range1 rfl T.b_range (sa_cons (se_var 1) sa_nil)) (fun _ _ _ _ _=>(sg_name (i:=0) (show (["k", "n"]:List Str).Nodup by decide +kernel))) (fun _ _ _ _ _=>(se_op os_sub (se_op os_sub (se_var 1) se_int) (se_var 0))) (fun _ _ _ _ _=>sts_nil) free_name)) sa_nil)) sa_nil))))))
    (sb_one (ss_ret (se_ix (se_var 4) (se_op os_mod (se_var 2) se_int)))))))
def b__law_b_is_pool_1:MS:=(mIfS (tOrM (toB (mOp oLt (mOp oIx (mVar 0) (mVar 2)) (mC (.int 0)))) (tOrM (toB (mOp (oI fun a b=>.bl (decide (b<=a))) (mOp oIx (mVar 0) (mVar 2)) (mVar 1))) (tAndM (toB (mOp (oI fun a b=>.bl (decide (b < a))) (mVar 2) (mC (.int 0)))) (toB (mOp (oI fun a b=>.bl (decide (b<=a))) (mOp oIx (mVar 0) (mOp (oI fun a b=>.int (a - b)) (mVar 2) (mC (.int 1)))) (mOp oIx (mVar 0) (mVar 2))))))) (mRet (mC (.bl false))) mNext)
def m__law_b_is_pool : MS := (mSeqS (mIfS (toB (mOp oEq (mVar 0) (mTup mNil))) (mRet (mC (.bl false))) mNext)
    (mSeqS (mFor (gaName 2) (mRange1 (mCons (mCall cLen (mCons (mVar 0) mNil)) mNil)) b__law_b_is_pool_1)
    (mRet (mC (.bl true)))))
def F__law_b_is_pool:FN:=callF m__law_b_is_pool 3
theorem sc__law_b_is_pool:FnScope ["pool", "n", "k"] ["pool", "n"] (defScope s__law_b_is_pool):=⟨rfl,rfl,rfl,by decide +kernel,rfl,by decide +kernel,by decide +kernel⟩
theorem ok__law_b_is_pool {f:Addr} {fd:FuncData} (F:Fun K "_law_b_is_pool" "_law_b_is_pool" s__law_b_is_pool f fd) (T:Txt mg)   : FnOk P w K mg base (CXD P w) 1 f fd ["pool", "n"] (spF mg 2 F__law_b_is_pool):=by
  refine fun_ok2 (k:=0) (m:=m__law_b_is_pool) F sc__law_b_is_pool rfl rfl rfl fun cdv A outer s H E hr=>?_
  exact (sb_cons (ss_if (st_cmp (os_eq hr.units) (se_var 0) (se_tup sa_nil)) (sb_one (ss_ret se_bl)) sb_nil)
    (sb_cons (ss_for PassesOwn.leaving rfl (si_range1 rfl T.b_range (sa_cons (se_callB cs_len rfl T.b_len PySem.boot_len (sa_cons (se_var 0) sa_nil)) sa_nil)) (sg_name (i:=2) sc__law_b_is_pool.nd) (sb_one (ss_if (SimW.t (sw_or (st_cmp (os_lt hr.units) (se_ix (se_var 0) (se_var 2)) se_int) (sw_or (st_cmp os_ge (se_ix (se_var 0) (se_var 2)) (se_var 1)) (sw_or1 (SimW.t (sw_and (st_cmp os_gt (se_var 2) se_int) (sw_and1 (st_cmp os_ge (se_ix (se_var 0) (se_op os_sub (se_var 2) se_int)) (se_ix (se_var 0) (se_var 2)))))))))) (sb_one (ss_ret se_bl)) sb_nil)))
    (sb_one (ss_ret se_bl))))
def e_law_1:ME:=(mTrk (mRepN (mLst (mCons (mC (.int 0)) mNil)) (mOp oAdd (mVar 1) (mC (.int 1)))))
def b_law_3:MS:=(mIfS (toB (mOp oNe (mCallF 5 F__law_b_told (mCons (mVar 14) (mCons (mVar 4) (mCons (mVar 12) (mCons (mVar 6) (mCons (mOp oIx (mVar 7) (mOp oMod (mOp oDiv (mVar 9) (mC (.int 5))) (mC (.int 4)))) mNil)))))) (mVar 13))) (mRet (mC (.bl false))) mNext)
def b_law_2 : MS := (mSeqS (mSet 13 (mIf (toB (mCallF 2 F__law_b_is_pool (mCons (mVar 12) (mCons (mVar 2) mNil)))) (mC (.str "told")) (mC (.str "house"))))
    (mSeqS (mIfS (tNotM (toB (mVar 5))) (mSet 13 (mC (.str "table"))) mNext)
    (mFor (gaName 14) (mRange1 (mCons (mC (.int 4)) mNil)) b_law_3)))
def b_law_1 : MS := (mSeqS (mSet 9 (mCallF 2 F__law_b_draw (mCons (mVar 0) (mCons (mOp oAdd (mC (.int 22)) (mVar 8)) mNil))))
    (mSeqS (mSet 10 (mCallF 2 F__law_b_pool (mCons (mVar 2) (mCons (mVar 9) mNil))))
    (mSeqS (mSet 11 (mCallF 3 F__law_b_no_pool (mCons (mVar 10) (mCons (mVar 2) (mCons (mOp oDiv (mVar 9) (mC (.int 16))) mNil)))))
    (mFor (gaName 12) (mSeq (mLst (mCons (mVar 10) (mCons (mVar 11) mNil)))) b_law_2))))
def m_law : MS := (mSeqS (mSet 1 (mCallF 2 F__law_b_draw (mCons (mVar 0) (mCons (mC (.int 0)) mNil))))
    (mSeqS (mSet 2 (mOp oAdd (mC (.int 1)) (mOp oMod (mVar 1) (mC (.int 4)))))
    (mSeqS (mSet 3 (mCallF 3 F__law_b_sparse (mCons (mVar 0) (mCons (mVar 2) (mCons (mC (.int 2)) mNil)))))
    (mSeqS (mIfS (toB (mOp oEq (mOp oMod (mOp oDiv (mVar 1) (mC (.int 4))) (mC (.int 2))) (mC (.int 0)))) (mSet 3 (mCallF 5 F__law_b_deeds (mCons (mTrk (mCompN [none,some 2] (gaName 0) (mRange1 (mCons (mVar 2) mNil)) mTrue e_law_1)) (mCons (mVar 0) (mCons (mC (.int 2)) (mCons (mOp oAdd (mC (.int 1)) (mOp oMod (mOp oDiv (mVar 1) (mC (.int 8))) (mC (.int 8)))) (mCons (mVal (mLRN (mVar 2))) mNil))))))) mNext)
    (mSeqS (mSet 4 (mCallF 1 F__law_b_tuples (mCons (mVar 3) mNil)))
    (mSeqS (mSet 5 (mCallF 1 F__law_b_comes (mCons (mVar 4) mNil)))
    (mSeqS (mSet 6 (mOp oAdd (mC (.int 1)) (mOp oMod (mCallF 2 F__law_b_draw (mCons (mVar 0) (mCons (mC (.int 1)) mNil))) (mOp oPow (mC (.int 10)) (mC (.int 20))))))
    (mSeqS (mSet 7 (mLst (mCons (mVar 4) (mCons (mCallF 1 F_bare (mCons (mVar 2) mNil)) (mCons (mCallF 1 F_bare (mCons (mOp oAdd (mVar 2) (mC (.int 1))) mNil)) (mCons (mCallF 1 F__law_b_less (mCons (mVar 4) mNil)) mNil))))))
    (mSeqS (mFor (gaName 8) (mRange1 (mCons (mC (.int 5)) mNil)) b_law_1)
    (mRet (mC (.bl true))))))))))))
def F_law:FN:=callF m_law 15
theorem sc_law:FnScope ["script", "draw", "n", "rows", "table", "comes", "k", "worlds", "turn", "cell", "pool", "bad", "some", "due", "door"] ["script"] (defScope s_law):=⟨rfl,rfl,rfl,by decide +kernel,rfl,by decide +kernel,by decide +kernel⟩
theorem ok_law {f:Addr} {fd:FuncData} (F:Fun K "law" "law" s_law f fd) (T:Txt mg)  (D__law_b_draw:DefS P w K mg base 1 "_law_b_draw" 2 F__law_b_draw) (D__law_b_sparse:DefS P w K mg base 2 "_law_b_sparse" 3 F__law_b_sparse) (D__law_b_deeds:DefS P w K mg base 2 "_law_b_deeds" 5 F__law_b_deeds) (D__law_b_tuples:DefS P w K mg base 1 "_law_b_tuples" 1 F__law_b_tuples) (D__law_b_comes:DefS P w K mg base 2 "_law_b_comes" 1 F__law_b_comes) (D_bare:DefS P w K mg base 1 "bare" 1 F_bare) (D__law_b_less:DefS P w K mg base 2 "_law_b_less" 1 F__law_b_less) (D__law_b_pool:DefS P w K mg base 1 "_law_b_pool" 2 F__law_b_pool) (D__law_b_no_pool:DefS P w K mg base 1 "_law_b_no_pool" 3 F__law_b_no_pool) (D__law_b_is_pool:DefS P w K mg base 1 "_law_b_is_pool" 2 F__law_b_is_pool) (D__law_b_told:DefS P w K mg base 12 "_law_b_told" 5 F__law_b_told):FnOk P w K mg base (CXD P w) 13 f fd ["script"] (spF mg 1 F_law):=by
  refine fun_ok2 (k:=12) (m:=m_law) F sc_law rfl rfl rfl fun cdv A outer s H E hr=>?_
  exact (sb_cons (ss_set 1 sc_law.nd (se_call D__law_b_draw (hr.mono (by decide)) pass_onD rfl (sa_cons (se_var 0) (sa_cons se_int sa_nil))))
    (sb_cons (ss_set 2 sc_law.nd (se_op os_add se_int (se_op os_mod (se_var 1) se_int)))
    (sb_cons (ss_set 3 sc_law.nd (se_call D__law_b_sparse (hr.mono (by decide)) pass_onD rfl (sa_cons (se_var 0) (sa_cons (se_var 2) (sa_cons se_int sa_nil)))))
    (sb_cons (ss_if (st_cmp (os_eq hr.units) (se_op os_mod (se_op os_div (se_var 1) se_int) se_int) se_int) (sb_one (ss_set 3 sc_law.nd (se_call D__law_b_deeds (hr.mono (by decide)) pass_onD rfl (sa_cons (se_trk (sn_comp [none,some 2] ["house", "n"] rfl (si_range1 rfl T.b_range (sa_cons (se_var 2) sa_nil)) (fun _ _ _ _ _=>(sg_name (i:=0) (show (["house", "n"]:List Str).Nodup by decide +kernel))) (fun _ _ _ _ _=>(se_trk (sn_rep (se_lst (sa_cons se_int sa_nil)) (se_op os_add (se_var 1) se_int)))) (fun _ _ _ _ _=>sts_nil) free_name)) (sa_cons (se_var 0) (sa_cons se_int (sa_cons (se_op os_add se_int (se_op os_mod (se_op os_div (se_var 1) se_int) se_int)) (sa_cons (se_val (sn_lrange (se_var 2) rfl rfl T.b_list rfl T.b_range)) sa_nil)))))))) sb_nil)
    (sb_cons (ss_set 4 sc_law.nd (se_call D__law_b_tuples (hr.mono (by decide)) pass_onD rfl (sa_cons (se_var 3) sa_nil)))
    (sb_cons (ss_set 5 sc_law.nd (se_call D__law_b_comes (hr.mono (by decide)) pass_onD rfl (sa_cons (se_var 4) sa_nil)))
    (sb_cons (ss_set 6 sc_law.nd (se_op os_add se_int (se_op os_mod (se_call D__law_b_draw (hr.mono (by decide)) pass_onD rfl (sa_cons (se_var 0) (sa_cons se_int sa_nil))) (se_op os_pow se_int se_int))))
    (sb_cons (ss_set 7 sc_law.nd (se_lst (sa_cons (se_var 4) (sa_cons (se_call D_bare (hr.mono (by decide)) pass_onD rfl (sa_cons (se_var 2) sa_nil)) (sa_cons (se_call D_bare (hr.mono (by decide)) pass_onD rfl (sa_cons (se_op os_add (se_var 2) se_int) sa_nil)) (sa_cons (se_call D__law_b_less (hr.mono (by decide)) pass_onD rfl (sa_cons (se_var 4) sa_nil)) sa_nil))))))
    (sb_cons (ss_for PassesOwn.leaving rfl (si_range1 rfl T.b_range (sa_cons se_int sa_nil)) (sg_name (i:=8) sc_law.nd) (sb_cons (ss_set 9 sc_law.nd (se_call D__law_b_draw (hr.mono (by decide)) pass_onD rfl (sa_cons (se_var 0) (sa_cons (se_op os_add se_int (se_var 8)) sa_nil))))
    (sb_cons (ss_set 10 sc_law.nd (se_call D__law_b_pool (hr.mono (by decide)) pass_onD rfl (sa_cons (se_var 2) (sa_cons (se_var 9) sa_nil))))
    (sb_cons (ss_set 11 sc_law.nd (se_call D__law_b_no_pool (hr.mono (by decide)) pass_onD rfl (sa_cons (se_var 10) (sa_cons (se_var 2) (sa_cons (se_op os_div (se_var 9) se_int) sa_nil)))))
    (sb_one (ss_for PassesOwn.leaving rfl (si_seq (se_lst (sa_cons (se_var 10) (sa_cons (se_var 11) sa_nil)))) (sg_name (i:=12) sc_law.nd) (sb_cons (ss_set 13 sc_law.nd (se_if (st_val (se_call D__law_b_is_pool (hr.mono (by decide)) pass_onD rfl (sa_cons (se_var 12) (sa_cons (se_var 2) sa_nil)))) se_str se_str))
    (sb_cons (ss_if (st_not (st_val (se_var 5))) (sb_one (ss_set 13 sc_law.nd se_str)) sb_nil)
    (sb_one (ss_for PassesOwn.leaving rfl (si_range1 rfl T.b_range (sa_cons se_int sa_nil)) (sg_name (i:=14) sc_law.nd) (sb_one (ss_if (st_cmp (os_ne hr.units) (se_call D__law_b_told (hr.mono (by decide)) pass_onD rfl (sa_cons (se_var 14) (sa_cons (se_var 4) (sa_cons (se_var 12) (sa_cons (se_var 6) (sa_cons (se_ix (se_var 7) (se_op os_mod (se_op os_div (se_var 9) se_int) se_int)) sa_nil)))))) (se_var 13)) (sb_one (ss_ret se_bl)) sb_nil))))))))))))
    (sb_one (ss_ret se_bl)))))))))))
end
end Lw
namespace Lw
open PySem PySem.Spec L2 Sm
theorem emod_lt (a:Int) {b:Int} (h:0 < b):0<=a % b/\a % b < b:=⟨Int.emod_nonneg a (by omega),Int.emod_lt_of_pos a h⟩
def rowV (r:List Int):PV:=.tup (r.map .int)
def tabV (tb:List (List Int)):PV:=.tup (tb.map rowV)
theorem all_id {α:Type} (xs:List α) (p:α->Bool):(xs.map p).all id=xs.all p:=by
  rw [List.all_map]; rfl
structure Wt' (n:Nat) (tb:List (List Int)):Prop where
  len:tb.length=n
  row:∀ r ∈ tb,r.length=n + 1
  nn:∀ r ∈ tb,∀ x ∈ r,(0:Int)<=x
  n1:1<=n
  n8:n<=8
def upto (n:Nat) (f:Nat->Int):Int:=((List.range n).map f).sum
theorem upto_succ (n:Nat) (f:Nat->Int):upto (n + 1) f=upto n f + f n:=by
  unfold upto
  rw [List.range_succ,List.map_append,List.sum_append]
  simp
theorem upto_congr {n:Nat} {f g:Nat->Int} (h:∀ i,i < n->f i=g i):upto n f=upto n g:=by
  induction n with
  | zero=>rfl
  | succ n ih=>rw [upto_succ,upto_succ,ih fun i hi=>h i (by omega),h n (by omega)]
theorem upto_add (n:Nat) (f g:Nat->Int):upto n (fun i=>f i + g i)=upto n f + upto n g:=by
  induction n with
  | zero=>rfl
  | succ n ih=>rw [upto_succ,upto_succ,upto_succ,ih]; omega
theorem upto_sub (n:Nat) (f g:Nat->Int):upto n (fun i=>f i - g i)=upto n f - upto n g:=by
  induction n with
  | zero=>rfl
  | succ n ih=>rw [upto_succ,upto_succ,upto_succ,ih]; omega
theorem upto_zero (n:Nat):upto n (fun _=>0)=0:=by
  induction n with
  | zero=>rfl
  | succ n ih=>rw [upto_succ,ih]; rfl
theorem upto_nonneg {n:Nat} {f:Nat->Int} (h:∀ i,i < n->0<=f i):0<=upto n f:=by
  induction n with
  | zero=>exact Int.le_refl _
  | succ n ih=>rw [upto_succ]; have:=ih fun i hi=>h i (by omega); have:=h n (by omega); omega
theorem map_getD {α β:Type} (l:List α) (d:α) (f:α->β):l.map f=(List.range l.length).map fun i=>f (l.getD i d):=by
  refine List.ext_getElem? fun i=>?_
  rw [List.getElem?_map,List.getElem?_map]
  by_cases hi:i < l.length
  · rw [List.getElem?_range hi,getD_some hi d]; rfl
  · rw [List.getElem?_eq_none (by omega),List.getElem?_eq_none (by rw [List.length_range]; omega)]; rfl
theorem zipIdx_map {α β:Type} (l:List α) (d:α) (f:α × Nat->β):l.zipIdx.map f=(List.range l.length).map fun i=>f (l.getD i d,i):=by
  refine List.ext_getElem? fun i=>?_
  rw [List.getElem?_map,List.getElem?_map,List.getElem?_zipIdx]
  by_cases hi:i < l.length
  · rw [List.getElem?_range hi,getD_some hi d]; simp
  · rw [List.getElem?_eq_none (by omega),List.getElem?_eq_none (by rw [List.length_range]; omega)]; rfl
theorem sum_upto (r:List Int):r.sum=upto r.length fun j=>r.getD j 0:=by
  have:=map_getD r 0 id
  rw [List.map_id] at this
  rw [upto]
  conv=>lhs; rw [this]
  rfl
def ent (tb:List (List Int)) (i j:Nat):Int:=(tb.getD i []).getD j 0
def Sz (n:Nat) (tb:List (List Int)):Prop:=tb.length=n/\∀ r ∈ tb,r.length=n + 1
theorem Wt'.sz {n:Nat} {tb:List (List Int)} (w:Wt' n tb):Sz n tb:=⟨w.len,w.row⟩
theorem Sz.row {n i:Nat} {tb:List (List Int)} (z:Sz n tb) (hi:i < n):tb[i]?=some (tb.getD i [])/\(tb.getD i []).length=n + 1:=by
  have e:=getD_some (show i < tb.length by rw [z.1]; exact hi) []
  exact ⟨e,z.2 _ (List.mem_of_getElem? e)⟩
theorem Sz.cell {n i j:Nat} {tb:List (List Int)} (z:Sz n tb) (hi:i < n) (hj:j<=n):(tb.getD i [])[j]?=some (ent tb i j):=getD_some (by rw [(z.row hi).2]; omega) 0
theorem tab_ext {n:Nat} {t1 t2:List (List Int)} (z1:Sz n t1) (z2:Sz n t2) (h:∀ i j,i < n->j<=n->ent t1 i j=ent t2 i j):t1=t2:=by
  refine List.ext_getElem? fun i=>?_
  by_cases hi:i < n
  · rw [(z1.row hi).1,(z2.row hi).1]
    congr 1
    refine List.ext_getElem? fun j=>?_
    by_cases hj:j<=n
    · rw [z1.cell hi hj,z2.cell hi hj,h i j hi hj]
    · rw [List.getElem?_eq_none (by rw [(z1.row hi).2]; omega),List.getElem?_eq_none (by rw [(z2.row hi).2]; omega)]
  · rw [List.getElem?_eq_none (by rw [z1.1]; omega),List.getElem?_eq_none (by rw [z2.1]; omega)]
theorem Wt'.ent_nn {n i j:Nat} {tb:List (List Int)} (w:Wt' n tb) (hi:i < n) (hj:j<=n):0<=ent tb i j:=w.nn _ (List.mem_of_getElem? (w.sz.row hi).1) _ (List.mem_of_getElem? (w.sz.cell hi hj))
theorem is_whole_int (i:Int) (st:Store):F_is_whole [.int i] st=.ok (.bl true) st:=by
  simp [F_is_whole,callF,m_is_whole,isI,tyN]
theorem is_between_ok (a b c:Int) (st:Store):F_is_between [.int a,.int b,.int c] st=.ok (.bl (decide (b<=a) && decide (a<=c))) st:=by
  by_cases h:b<=a <;> simp [F_is_between,callF,m_is_between,is_whole_int,h]
theorem is_house_ok {V:PV} {n:Nat} {st:Store} (hV:cLen st [V]=.ok (.int n) st) (i:Int):F_is_house [V,.int i] st=.ok (.bl (decide (0<=i) && decide (i < n))) st:=by
  have e:decide (i<=(n:Int) - 1)=decide (i < (n:Int)):=by
    rw [decide_eq_decide]; omega
  simp [F_is_house,callF,m_is_house,hV,is_between_ok,e]
theorem is_house_yes {V:PV} {n i:Nat} {st:Store} (hV:cLen st [V]=.ok (.int n) st) (hi:i < n):F_is_house [V,.int i] st=.ok (.bl true) st:=by
  rw [is_house_ok hV]
  simp; omega
def intV (k:Nat):PV:=.int (k:Int)
theorem fz_ints {n r:Nat} {S:Store} {hs:List Int} (hr:n<=r) (h:S[r]?=some (.lst (hs.map .int))):fz n S 16 (.ref r)=some (.lst (hs.map .int)):=by
  have hg:good 12 (.lst (hs.map .int))=true:=by simp [good]
  have:=fz_good (n:=n) (st:=S) (k:=16) hg (by decide)
  rw [fz,if_neg (by omega),h]
  simpa [fz] using this
theorem range_gen {y:Int} {m:ME} {Γ:Gam} {S:Store} (hm:m Γ S=.ok (.int y) S) (h1:-1000000<=y/\y<=1000000):mRange1 (mCons m mNil) Γ S=.ok (rangeI 0 y.toNat,[]) S:=by
  simp -implicitDefEqProofs [hm,lim_eq,h1]
def rightsF (tb:List (List Int)) (h:Nat):Int:=upto tb.length (fun o=>ent tb o h) - ((tb.getD h []).sum - ent tb h h)
theorem rightsF_eq {n h:Nat} {tb:List (List Int)} (z:Sz n tb) (hh:h < n):rightsF tb h=upto n (fun o=>ent tb o h) - (upto n (fun j=>ent tb h j) + ent tb h n - ent tb h h):=by
  unfold rightsF
  rw [z.1,sum_upto (tb.getD h []),(z.row hh).2,upto_succ]
  rfl
theorem rights_ok {n h:Nat} {tb:List (List Int)} (z:Sz n tb) (hn:n<=100) (hh:h < n) (st:Store):F_rights [tabV tb,.int h] st=.ok (.int (rightsF tb h)) st:=by
  have hH:=is_house_yes (V:=tabV tb) (n:=n) (i:=h) (st:=st) (by simp [tabV,z.1]) hh
  have hc:compG (gaName 0) mTrue e_rights_1 [] (capG [none,some 1] [some (tabV tb),some (.int h),none,none,none]) (tb.map rowV) st=.ok (tb.map fun r=>.int (r.getD h 0)) st:=by
    refine compG_on _ _ (by simp) fun r hr=>⟨_,rfl,?_⟩
    have e:=atI_get (getD_some (show h < r.length by rw [z.2 r hr]; omega) 0)
    simp [capG,e_rights_1,rowV,atI_map,e]
  have e1:=atI_get (z.row hh).1
  have e2:=atI_get (z.cell hh (Nat.le_of_lt hh))
  have hs:(tb.map fun r=>r.getD h 0).sum=upto n fun o=>ent tb o h:=by
    rw [map_getD tb [] fun r=>r.getD h 0,z.1]; rfl
  have hl:tb.length<=1000000:=by rw [z.1]; omega
  unfold rightsF
  rw [z.1,<- hs]
  obtain ⟨r,hr⟩:∃ r,tb.getD h []=r:=⟨_,rfl⟩
  obtain ⟨x,hx⟩:∃ x,ent tb h h=x:=⟨_,rfl⟩
  rw [hr] at e1 e2 ⊢
  rw [hx] at e2 ⊢
  obtain ⟨q,hq⟩:∃ q,(tb.map fun r=>r.getD h 0)=q:=⟨_,rfl⟩
  have hq2:(tb.map fun r=>PV.int (r.getD h 0))=q.map .int:=by rw [<- hq,List.map_map]; rfl
  rw [hq2] at hc
  rw [hq]
  unfold tabV at hH hc ⊢
  simp [F_rights,callF,m_rights,hH,hc,hl,lim_eq,atI_map,e1,rowV,e2]
theorem cell_ix {n i j:Nat} {tb:List (List Int)} (z:Sz n tb) (hi:i < n) (hj:j<=n) (st:Store):oIx st (tabV tb) (.int i)=.ok (rowV (tb.getD i [])) st/\oIx st (rowV (tb.getD i [])) (.int j)=.ok (.int (ent tb i j)) st:=by
  constructor
  · unfold tabV; rw [oIx_tup,atI_map,atI_get (z.row hi).1]; rfl
  · unfold rowV; rw [oIx_tup,atI_map,atI_get (z.cell hi hj)]; rfl
def madeF (tb:List (List Int)) (h:Nat):Bool:=decide (0 < ent tb h h)
theorem made_ok {n h:Nat} {tb:List (List Int)} (z:Sz n tb) (hh:h < n) (st:Store):F_made_some [tabV tb,.int h] st=.ok (.bl (madeF tb h)) st:=by
  obtain ⟨c1,c2⟩:=cell_ix z hh (Nat.le_of_lt hh) st
  unfold madeF
  generalize ent tb h h=x at *
  generalize tb.getD h []=r at *
  simp [F_made_some,callF,m_made_some,c1,c2]
def busyF (tb:List (List Int)) (h:Nat):Bool:=decide (ent tb h h < (tb.getD h []).sum)
theorem busy_ok {n h:Nat} {tb:List (List Int)} (z:Sz n tb) (hh:h < n) (st:Store):F_lent_or_used_some [tabV tb,.int h] st=.ok (.bl (busyF tb h)) st:=by
  obtain ⟨c1,c2⟩:=cell_ix z hh (Nat.le_of_lt hh) st
  unfold busyF
  generalize ent tb h h=x at *
  generalize tb.getD h []=r at *
  have c3:cInts (fun ns=>some (.int ns.sum)) st [rowV r]=.ok (.int r.sum) st:=by unfold rowV; rw [cInts_tup]; rfl
  simp [F_lent_or_used_some,callF,m_lent_or_used_some,c1,c2,c3]
def lentF (tb:List (List Int)) (h:Nat) (ls:List Nat):Bool:=ls.any fun o=>decide (o ≠ h) && decide (0 < ent tb o h)
theorem any_id {α:Type} (xs:List α) (p:α->Bool):(xs.map p).any id=xs.any p:=by
  rw [List.any_map]; rfl
theorem lent_ok {n h:Nat} {tb:List (List Int)} (z:Sz n tb) (hh:h < n) {ls:List Nat} (hl:∀ o ∈ ls,o < n) (hll:ls.length<=1000) {V:PV} {st:Store} (hV:ListAt st V (ls.map intV)):F_was_lent_some [tabV tb,.int h,V] st=.ok (.bl (lentF tb h ls)) st:=by
  obtain ⟨w,hsrc,hw⟩:=hV.src
  have hc:compG (gaName 0) t_was_lent_some_1 e_was_lent_some_1 w (capG [none,some 1,some 0] [some (tabV tb),some (.int h),some V]) (ls.map intV) st=.ok ((ls.filter fun o=>decide (o ≠ h)).map fun o=>.bl (decide (0 < ent tb o h))) st:=by
    refine compG_onF _ _ _ hw fun o ho=>⟨_,rfl,?_,fun ht=>?_⟩
    · simp [capG,t_was_lent_some_1,intV]
      by_cases e:o=h
      · simp [e]
      · have:¬ ((o:Int)=h):=by omega
        simp [e,this]
    · obtain ⟨c1,c2⟩:=cell_ix z (hl o ho) (Nat.le_of_lt hh) st
      generalize ent tb o h=x at *
      generalize tb.getD o []=r at *
      simp [capG,e_was_lent_some_1,intV,c1,c2]
  have hll':(ls.map intV).length<=1000000:=by rw [List.length_map]; omega
  have hlf:lentF tb h ls=((ls.filter fun o=>decide (o ≠ h)).map fun o=>decide (0 < ent tb o h)).any id:=by
    rw [any_id,List.any_filter]; rfl
  rw [hlf]
  generalize ls.map intV=ov at *
  generalize ls.filter (fun o=>decide (o ≠ h))=fs at *
  simp [F_was_lent_some,callF,m_was_lent_some,hsrc,hll',lim_eq,hc,-List.any_map]
def rootsF (tb:List (List Int)) (h:Nat) (ls:List Nat):Bool:=madeF tb h || lentF tb h ls
theorem root_ok {n h:Nat} {tb:List (List Int)} (z:Sz n tb) (hh:h < n) {ls:List Nat} (hl:∀ o ∈ ls,o < n) (hll:ls.length<=1000) {V:PV} {st:Store} (hV:ListAt st V (ls.map intV)):F_has_root [tabV tb,.int h,V] st=.ok (.bl (rootsF tb h ls)) st:=by
  have h1:=made_ok z hh st
  have h2:=lent_ok z hh hl hll hV
  unfold rootsF
  cases hm:madeF tb h with
  | true=>rw [hm] at h1; simp [F_has_root,callF,m_has_root,h1]
  | false=>rw [hm] at h1; simp [F_has_root,callF,m_has_root,h1,h2]
theorem in_ints (hs:List Int) (x:Int):((hs.map PV.int).any fun y=>peq y (.int x))=decide (x ∈ hs):=by
  rw [List.any_map,Bool.eq_iff_iff,List.any_eq_true,decide_eq_true_iff]
  constructor
  · rintro ⟨y,hy,e⟩
    have:y=x:=by simpa [peq] using e
    rw [<- this]; exact hy
  · intro h
    exact ⟨x,h,by simp [peq]⟩
theorem in_ok {hs:List Int} {V:PV} {st:Store} (hV:ListAt st V (hs.map .int)) (x:Int) (b:Bool):oIn b st (.int x) V=.ok (.bl (decide (x ∈ hs) != b)) st:=by
  have hq:seqOf st V=some (hs.map .int):=by
    rcases hV with rfl | rfl | ⟨i,rfl,e⟩
    · rfl
    · rfl
    · rw [seqOf_r,e]
  have hd:der st (.int x)=.int x:=rfl
  have g1:good dep (.int x)=true:=rfl
  have g2:(hs.map PV.int).all (good dep)=true:=by simp [good,dep]
  unfold oIn
  rw [hq,hd]
  simp only [g1,g2,and_self,if_true,in_ints]
def riseF (hs:List Int):Bool:=(hs.zip (hs.drop 1)).all fun z=>decide (z.1 < z.2)
theorem riseF_iff (hs:List Int):riseF hs=true <-> ∀ k,k + 1 < hs.length->hs.getD k 0 < hs.getD (k + 1) 0:=by
  unfold riseF
  rw [List.all_eq_true]
  constructor
  · intro h k hk
    have e1:=getD_some (show k < hs.length by omega) 0
    have e2:=getD_some hk 0
    have:=h (hs.getD k 0,hs.getD (k + 1) 0) (List.mem_of_getElem? (i:=k) (by
      rw [List.getElem?_zip_eq_some]
      exact ⟨e1,by rw [List.getElem?_drop,Nat.add_comm]; exact e2⟩))
    simpa using this
  · intro h z hz
    obtain ⟨k,hk,e⟩:=List.mem_iff_getElem.mp hz
    have e':=List.getElem?_eq_some_iff.mpr ⟨hk,e⟩
    rw [List.getElem?_zip_eq_some] at e'
    obtain ⟨e1,e2⟩:=e'
    rw [List.getElem?_drop,Nat.add_comm] at e2
    have hk1:=(List.getElem?_eq_some_iff.mp e2).1
    have:=h k hk1
    rw [List.getD,e1,List.getD,e2] at this
    simpa using this
def busyR (n:Nat) (tb:List (List Int)) (h:Nat):Bool:=(List.range (n + 1)).any fun j=>decide (j ≠ h) && decide (0 < ent tb h j)
theorem upto_le {n j:Nat} {f:Nat->Int} (hf:∀ i,i < n->0<=f i) (hj:j < n):f j<=upto n f:=by
  induction n with
  | zero=>exact absurd hj (Nat.not_lt_zero _)
  | succ n ih=>
    rw [upto_succ]
    have hn0:=hf n (Nat.lt_succ_self n)
    by_cases e:j=n
    · subst e
      have:=upto_nonneg (f:=f) (n:=j) fun i hi=>hf i (Nat.lt_succ_of_lt hi)
      omega
    · have:=ih (fun i hi=>hf i (Nat.lt_succ_of_lt hi)) (by omega)
      omega
theorem upto_but {n h:Nat} (f:Nat->Int) (hh:h < n):upto n f=f h + upto n fun j=>if j ≠ h then f j else 0:=by
  induction n with
  | zero=>exact absurd hh (Nat.not_lt_zero _)
  | succ n ih=>
    rw [upto_succ,upto_succ]
    by_cases e:n=h
    · subst e
      rw [if_neg (by simp),upto_congr (f:=f) (g:=fun j=>if j ≠ n then f j else 0) fun i hi=>by rw [if_pos (by omega)]]
      omega
    · rw [if_pos e,ih (by omega)]
      omega
theorem upto_pos {n h:Nat} {f:Nat->Int} (hf:∀ i,i < n->0<=f i) (hh:h < n):f h < upto n f <-> ∃ j,j < n/\j ≠ h/\0 < f j:=by
  have e:=upto_but f hh
  have hg:∀ i,i < n->0<=(fun j=>if j ≠ h then f j else 0) i:=fun i hi=>by
    show 0<=if i ≠ h then f i else 0
    split
    · exact hf i hi
    · exact Int.le_refl _
  constructor
  · intro q
    refine Classical.byContradiction fun hno=>?_
    have:upto n (fun j=>if j ≠ h then f j else 0)=upto n fun _=>0:=upto_congr fun i hi=>by
      by_cases ei:i=h
      · rw [if_neg (by simp [ei])]
      · rw [if_pos ei]
        have h1:=hf i hi
        have h2:¬ 0 < f i:=fun q=>hno ⟨i,hi,ei,q⟩
        omega
    rw [upto_zero] at this
    omega
  · rintro ⟨j,hj,hne,hp⟩
    have:=upto_le hg hj
    simp only [if_pos hne] at this
    omega
theorem busy_eq {n h:Nat} {tb:List (List Int)} (w:Wt' n tb) (hh:h < n):busyR n tb h=busyF tb h:=by
  have hs:(tb.getD h []).sum=upto (n + 1) fun j=>ent tb h j:=by
    rw [sum_upto,(w.sz.row hh).2]; rfl
  have hp:=(upto_pos (n:=n + 1) (h:=h) (f:=fun j=>ent tb h j) (fun i hi=>w.ent_nn hh (by omega)) (by omega))
  unfold busyR busyF
  rw [hs,Bool.eq_iff_iff,List.any_eq_true,decide_eq_true_iff,hp]
  constructor
  · rintro ⟨j,hj,q⟩
    simp at q
    exact ⟨j,List.mem_range.mp hj,q.1,q.2⟩
  · rintro ⟨j,hj,a,b⟩
    exact ⟨j,List.mem_range.mpr hj,by simp [a,b]⟩
theorem modN (x:Int) {n:Nat} (h:1<=n):∃ k:Nat,k < n/\x % (n:Int)=(k:Int):=by
  have:=emod_lt x (b:=(n:Int)) (by omega)
  exact ⟨(x % (n:Int)).toNat,by omega,by omega⟩
def kn3 (tb:List (List Int)) (i:Nat) (bs:List Bool) (j:Nat):List Bool:=if bs.getD i false=true/\i ≠ j/\0 < ent tb i j then bs.set j true else bs
def kn2 (n:Nat) (tb:List (List Int)) (bs:List Bool) (i:Nat):List Bool:=(List.range n).foldl (kn3 tb i) bs
def kn1 (n:Nat) (tb:List (List Int)) (bs:List Bool) (_:Nat):List Bool:=(List.range n).foldl (kn2 n tb) bs
def knInit (n:Nat) (tb:List (List Int)):List Bool:=(List.range n).map (madeF tb)
def knownF (n:Nat) (tb:List (List Int)):List Bool:=(List.range n).foldl (kn1 n tb) (knInit n tb)
theorem fold_len {α β:Type} {f:List α->β->List α} (h:∀ bs x,(f bs x).length=bs.length):∀ (xs:List β) (bs:List α),(xs.foldl f bs).length=bs.length
  | [],_=>rfl
  | x :: xs,bs=>by rw [List.foldl_cons,fold_len h xs,h]
theorem kn3_len (tb:List (List Int)) (i:Nat) (bs:List Bool) (j:Nat):(kn3 tb i bs j).length=bs.length:=by
  unfold kn3; split <;> simp
theorem kn2_len (n:Nat) (tb:List (List Int)) (bs:List Bool) (i:Nat):(kn2 n tb bs i).length=bs.length:=fold_len (kn3_len tb i) _ _
theorem kn1_len (n:Nat) (tb:List (List Int)) (bs:List Bool) (t:Nat):(kn1 n tb bs t).length=bs.length:=fold_len (kn2_len n tb) _ _
theorem knownF_len (n:Nat) (tb:List (List Int)):(knownF n tb).length=n:=by
  unfold knownF
  rw [fold_len (kn1_len n tb)]
  simp [knInit]
def knS (st:Store) (bs:List Bool):Store:=st ++ [Cell.lst (bs.map .bl)]
theorem knS_at (st:Store) (bs:List Bool):(knS st bs)[st.length]?=some (.lst (bs.map .bl)):=by unfold knS; simp
theorem knS_ix {st:Store} {bs:List Bool} {i:Nat} (hi:i < bs.length):oIx (knS st bs) (.ref st.length) (.int i)=.ok (.bl (bs.getD i false)) (knS st bs):=by
  have:ListAt (knS st bs) (.ref st.length) (bs.map .bl):=.inr (.inr ⟨_,rfl,knS_at st bs⟩)
  rw [this.ix,atI_map,atI_get (getD_some hi false)]; rfl
theorem knS_set {st:Store} {bs:List Bool} {i:Nat} (hi:i < bs.length) (b:Bool):setIx (knS st bs) (.ref st.length) (.int i) (.bl b)=some (knS st (bs.set i b)):=by
  unfold setIx
  simp only [knS_at,List.length_map,ixN_nat hi,Option.map_some]
  unfold knS
  rw [List.map_set]
  simp
theorem kn_l3 (r:List (Option PV)) {n i:Nat} {tb:List (List Int)} (z:Sz n tb) (hi:i < n) (st:Store) (a c:Option PV) (bs:List Bool) (hl:bs.length=n):∃ c',forG (gaName 5) b__law_b_comes_3 [] (rangeI 0 n) (some (tabV tb) :: some (.int n) :: some (.ref st.length) :: a :: some (.int i) :: c :: r) (knS st bs)=.nx (some (tabV tb) :: some (.int n) :: some (.ref st.length) :: a :: some (.int i) :: c' :: r) (knS st (kn2 n tb bs i)):=by
  obtain ⟨Γ',st',e,c',rfl,rfl⟩:=forG_invL (g:=fun k:Nat=>PV.int (k:Int)) (xs:=List.range n) (ga:=gaName 5) (body:=b__law_b_comes_3) (w:=[]) (Γ:=(some (tabV tb) :: some (.int n) :: some (.ref st.length) :: a :: some (.int i) :: c :: r)) (st:=knS st bs)
    (fun pre Γ st'=>∃ c',Γ=(some (tabV tb) :: some (.int n) :: some (.ref st.length) :: a :: some (.int i) :: c' :: r)/\st'=knS st (pre.foldl (kn3 tb i) bs))
    (fun _ _ _ _=>by simp)
    (fun pre j post Γ st' hx ⟨c',e1,e2⟩=>by
      subst e1; subst e2
      have hj:j < n:=List.mem_range.mp (by rw [hx]; simp)
      refine ⟨_,rfl,(some (tabV tb) :: some (.int n) :: some (.ref st.length) :: a :: some (.int i) :: some (.int j) :: r),_,?_,_,rfl,rfl⟩
      rw [List.foldl_append,List.foldl_cons,List.foldl_nil]
      have hq:(pre.foldl (kn3 tb i) bs).length=n:=by rw [fold_len (kn3_len tb i),hl]
      generalize pre.foldl (kn3 tb i) bs=qs at *
      have x1:=knS_ix (st:=st) (bs:=qs) (i:=i) (by omega)
      have x2:=knS_set (st:=st) (bs:=qs) (i:=j) (by omega) true
      obtain ⟨c1,c2⟩:=cell_ix z hi (Nat.le_of_lt hj) (knS st qs)
      unfold kn3
      generalize hS:knS st qs=S at *
      generalize hS2:knS st (qs.set j true)=S2 at *
      generalize qs.getD i false=b at *
      generalize ent tb i j=x at *
      generalize tb.getD i []=rw at *
      cases b with
      | false=>simp -implicitDefEqProofs [b__law_b_comes_3,x1,hS]
      | true=>
        by_cases h1:i=j
        · subst h1
          simp -implicitDefEqProofs [b__law_b_comes_3,x1,hS]
        · have h1':¬ ((i:Int)=j):=by omega
          by_cases h2:0 < x
          · simp -implicitDefEqProofs [b__law_b_comes_3,x1,h1,h1',h2,c1,c2,x2,hS2,-setIx_r]
          · simp -implicitDefEqProofs [b__law_b_comes_3,x1,h1,h1',h2,c1,c2,hS])
    ⟨c,rfl,rfl⟩
  rw [<- rangeI0] at e
  exact ⟨c',e⟩
theorem kn_l2 (r:List (Option PV)) {n:Nat} {tb:List (List Int)} (z:Sz n tb) (hn:n<=100) (st:Store) (a c d:Option PV) (bs:List Bool) (hl:bs.length=n):∃ c' d',forG (gaName 4) b__law_b_comes_2 [] (rangeI 0 n) (some (tabV tb) :: some (.int n) :: some (.ref st.length) :: a :: c :: d :: r) (knS st bs)=.nx (some (tabV tb) :: some (.int n) :: some (.ref st.length) :: a :: c' :: d' :: r) (knS st (kn1 n tb bs 0)):=by
  have hn1:-1000000<=(n:Int)/\(n:Int)<=1000000:=by omega
  obtain ⟨Γ',st',e,c',d',rfl,rfl⟩:=forG_invL (g:=fun k:Nat=>PV.int (k:Int)) (xs:=List.range n) (ga:=gaName 4) (body:=b__law_b_comes_2) (w:=[]) (Γ:=(some (tabV tb) :: some (.int n) :: some (.ref st.length) :: a :: c :: d :: r)) (st:=knS st bs)
    (fun pre Γ st'=>∃ c' d',Γ=(some (tabV tb) :: some (.int n) :: some (.ref st.length) :: a :: c' :: d' :: r)/\st'=knS st (pre.foldl (kn2 n tb) bs))
    (fun _ _ _ _=>by simp)
    (fun pre i post Γ st' hx ⟨c',d',e1,e2⟩=>by
      subst e1; subst e2
      have hi:i < n:=List.mem_range.mp (by rw [hx]; simp)
      have hq:(pre.foldl (kn2 n tb) bs).length=n:=by rw [fold_len (kn2_len n tb),hl]
      obtain ⟨d2,e3⟩:=kn_l3 r z hi st a d' _ hq
      refine ⟨_,rfl,(some (tabV tb) :: some (.int n) :: some (.ref st.length) :: a :: some (.int i) :: d2 :: r),_,?_,_,_,rfl,rfl⟩
      rw [List.foldl_append,List.foldl_cons,List.foldl_nil]
      generalize pre.foldl (kn2 n tb) bs=qs at *
      simp -implicitDefEqProofs [b__law_b_comes_2,lim_eq,hn1,e3])
    ⟨c,d,rfl,rfl⟩
  rw [<- rangeI0] at e
  exact ⟨c',d',e⟩
theorem kn_l1 (r:List (Option PV)) {n:Nat} {tb:List (List Int)} (z:Sz n tb) (hn:n<=100) (st:Store) (bs:List Bool) (hl:bs.length=n):∃ a' c' d',forG (gaName 3) b__law_b_comes_1 [] (rangeI 0 n) (some (tabV tb) :: some (.int n) :: some (.ref st.length) :: none :: none :: none :: r) (knS st bs)=.nx (some (tabV tb) :: some (.int n) :: some (.ref st.length) :: a' :: c' :: d' :: r) (knS st ((List.range n).foldl (kn1 n tb) bs)):=by
  have hn1:-1000000<=(n:Int)/\(n:Int)<=1000000:=by omega
  obtain ⟨Γ',st',e,a',c',d',rfl,rfl⟩:=forG_invL (g:=fun k:Nat=>PV.int (k:Int)) (xs:=List.range n) (ga:=gaName 3) (body:=b__law_b_comes_1) (w:=[]) (Γ:=(some (tabV tb) :: some (.int n) :: some (.ref st.length) :: none :: none :: none :: r)) (st:=knS st bs)
    (fun pre Γ st'=>∃ a' c' d',Γ=(some (tabV tb) :: some (.int n) :: some (.ref st.length) :: a' :: c' :: d' :: r)/\st'=knS st (pre.foldl (kn1 n tb) bs))
    (fun _ _ _ _=>by simp)
    (fun pre i post Γ st' hx ⟨a',c',d',e1,e2⟩=>by
      subst e1; subst e2
      have hi:i < n:=List.mem_range.mp (by rw [hx]; simp)
      have hq:(pre.foldl (kn1 n tb) bs).length=n:=by rw [fold_len (kn1_len n tb),hl]
      obtain ⟨c2,d2,e3⟩:=kn_l2 r z hn st (some (.int i)) c' d' _ hq
      refine ⟨_,rfl,(some (tabV tb) :: some (.int n) :: some (.ref st.length) :: some (.int i) :: c2 :: d2 :: r),_,?_,_,_,_,rfl,rfl⟩
      rw [List.foldl_append,List.foldl_cons,List.foldl_nil]
      rw [show kn1 n tb (pre.foldl (kn1 n tb) bs) i=kn1 n tb (pre.foldl (kn1 n tb) bs) 0 from rfl]
      generalize pre.foldl (kn1 n tb) bs=qs at *
      simp -implicitDefEqProofs [b__law_b_comes_1,lim_eq,hn1,e3])
    ⟨none,none,none,rfl,rfl⟩
  rw [<- rangeI0] at e
  exact ⟨a',c',d',e⟩
inductive Rc (n:Nat) (tb:List (List Int)):Nat->Prop
  | made {h:Nat}:h < n->madeF tb h=true->Rc n tb h
  | lent {o h:Nat}:Rc n tb o->h < n->0 < ent tb o h->Rc n tb h
theorem Rc.lt {n h:Nat} {tb:List (List Int)} (r:Rc n tb h):h < n:=by cases r <;> assumption
theorem fold_inv {α β:Type} {f:β->α->β} {P:β->Prop}:∀ {xs:List α} {b:β},(∀ b x,x ∈ xs->P b->P (f b x))->P b->P (xs.foldl f b)
  | [],_,_,h=>h
  | x :: xs,b,hs,h=>fold_inv (xs:=xs) (fun b y hy=>hs b y (List.mem_cons_of_mem _ hy)) (hs b x List.mem_cons_self h)
theorem fold_hit {α β:Type} {f:β->α->β} {P Q:β->Prop} (hP:∀ b y,P b->P (f b y)) (hQ:∀ b y,Q b->Q (f b y)) {x:α} (hx:∀ b,P b->Q (f b x)):∀ {xs:List α} {b:β},x ∈ xs->P b->Q (xs.foldl f b)
  | [],_,hm,_=>by cases hm
  | y :: ys,b,hm,hb=>by
    rw [List.foldl_cons]
    rcases List.mem_cons.mp hm with rfl | hm
    · exact fold_inv (fun b y _=>hQ b y) (hx b hb)
    · exact fold_hit hP hQ hx hm (hP b y hb)
def Cl (n:Nat) (tb:List (List Int)) (mem:Nat->Bool):Prop:=∀ o h,o < n->h < n->o ≠ h->0 < ent tb o h->mem o=true->mem h=true
def cnt (n:Nat) (mem:Nat->Bool):Int:=upto n fun h=>if mem h=true then 1 else 0
theorem cnt_le (n:Nat) (mem:Nat->Bool):cnt n mem<=n:=by
  unfold cnt
  induction n with
  | zero=>exact Int.le_refl _
  | succ n ih=>rw [upto_succ]; split <;> omega
theorem cnt_lt {n:Nat} {m1 m2:Nat->Bool} (hm:∀ h,h < n->m1 h=true->m2 h=true) {h:Nat} (hh:h < n) (h1:m1 h=false) (h2:m2 h=true):cnt n m1 + 1<=cnt n m2:=by
  have e:=upto_sub n (fun h=>if m2 h=true then (1:Int) else 0) (fun h=>if m1 h=true then 1 else 0)
  have l:=upto_le (n:=n) (j:=h) (f:=fun h=>(if m2 h=true then (1:Int) else 0) - (if m1 h=true then 1 else 0)) (fun i hi=>by
    have:=hm i hi
    cases a:m1 i <;> cases b:m2 i <;> simp_all) hh
  simp only [h1,h2] at l
  unfold cnt
  simp at l
  omega
theorem turns_close {X:Type} (n:Nat) (tb:List (List Int)) (mem:X->Nat->Bool) (f:X->Nat->X) (Inv:X->Prop) (hi:∀ x t,Inv x->Inv (f x t))
    (mono:∀ x t h,Inv x->h < n->mem x h=true->mem (f x t) h=true)
    (push:∀ x t o h,Inv x->o < n->h < n->o ≠ h->0 < ent tb o h->mem x o=true->mem (f x t) h=true)
    (stay:∀ x t,Inv x->Cl n tb (mem x)->∀ h,h < n->mem (f x t) h=true->mem x h=true) (x0:X) (h0:Inv x0):Cl n tb (mem ((List.range n).foldl f x0)):=by
  have key:∀ t:Nat,Inv ((List.range t).foldl f x0)/\(Cl n tb (mem ((List.range t).foldl f x0))\/(t:Int)<=cnt n (mem ((List.range t).foldl f x0))):=by
    intro t
    induction t with
    | zero=>
      refine ⟨h0,.inr ?_⟩
      exact upto_nonneg fun i _=>by split <;> omega
    | succ t ih=>
      rw [List.range_succ,List.foldl_append,List.foldl_cons,List.foldl_nil]
      obtain ⟨iv,ih⟩:=ih
      generalize (List.range t).foldl f x0=x at *
      refine ⟨hi x t iv,?_⟩
      rcases Classical.em (Cl n tb (mem x)) with c | c
      · refine .inl fun o h ho hh hne he hm=>?_
        exact mono x t h iv hh (c o h ho hh hne he (stay x t iv c o ho hm))
      · rcases ih with ih | ih
        · exact absurd ih c
        · refine .inr ?_
          have:∃ o h,o < n/\h < n/\o ≠ h/\0 < ent tb o h/\mem x o=true/\mem x h=false:=by
            refine Classical.byContradiction fun q=>c fun o h ho hh hne he hm=>?_
            cases e:mem x h with
            | true=>rfl
            | false=>exact absurd ⟨o,h,ho,hh,hne,he,hm,e⟩ q
          obtain ⟨o,h,ho,hh,hne,he,hm,hf⟩:=this
          have:=cnt_lt (fun h hh=>mono x t h iv hh) hh hf (push x t o h iv ho hh hne he hm)
          push_cast
          omega
  obtain ⟨iv,h | h⟩:=key n
  · exact h
  · intro o k ho hk hne he hm
    generalize (List.range n).foldl f x0=x at *
    cases e:mem x k with
    | true=>rfl
    | false=>
      have:=cnt_lt (m1:=mem x) (m2:=fun _=>true) (fun _ _ _=>rfl) hk e rfl
      have h2:=cnt_le n fun _=>true
      omega
theorem set_get {bs:List Bool} {j h:Nat}:((bs.set j true).getD h false=true) <-> (h=j/\j < bs.length)\/bs.getD h false=true:=by
  rw [List.getD,List.getElem?_set]
  by_cases e:j=h
  · subst e
    by_cases l:j < bs.length
    · simp [l]
    · simp [l,List.getD]
  · rw [if_neg e]
    constructor
    · intro q; exact .inr q
    · rintro (⟨q,_⟩ | q)
      · exact absurd q.symm e
      · exact q
theorem kn3_mono {tb:List (List Int)} {i j h:Nat} {bs:List Bool} (q:bs.getD h false=true):(kn3 tb i bs j).getD h false=true:=by
  unfold kn3
  split
  · exact set_get.mpr (.inr q)
  · exact q
theorem kn2_mono {n:Nat} {tb:List (List Int)} {i h:Nat} {bs:List Bool} (q:bs.getD h false=true):(kn2 n tb bs i).getD h false=true:=fold_inv (P:=fun bs:List Bool=>bs.getD h false=true) (fun _ _ _ q=>kn3_mono q) q
theorem kn1_mono {n:Nat} {tb:List (List Int)} {t h:Nat} {bs:List Bool} (q:bs.getD h false=true):(kn1 n tb bs t).getD h false=true:=fold_inv (P:=fun bs:List Bool=>bs.getD h false=true) (fun _ _ _ q=>kn2_mono q) q
theorem known_closed (n:Nat) (tb:List (List Int)):Cl n tb fun h=>(knownF n tb).getD h false:=by
  refine turns_close n tb (fun (bs:List Bool) h=>bs.getD h false) (kn1 n tb) (fun bs=>bs.length=n) (fun x t hx=>by rw [kn1_len]; exact hx) (fun x t h _ _ q=>kn1_mono q) (fun x t o h hx ho hh hne he hm=>?_) (fun x t hx c h hh hm=>?_) _ (by simp [knInit])
  · show (kn1 n tb x t).getD h false=true
    refine fold_hit (P:=fun bs:List Bool=>bs.length=n/\bs.getD o false=true) (Q:=fun bs:List Bool=>bs.getD h false=true) (fun bs y q=>⟨by rw [kn2_len]; exact q.1,kn2_mono q.2⟩) (fun bs y q=>kn2_mono q) (x:=o) (fun bs q=>?_) (List.mem_range.mpr ho) ⟨hx,hm⟩
    refine fold_hit (P:=fun bs:List Bool=>bs.length=n/\bs.getD o false=true) (Q:=fun bs:List Bool=>bs.getD h false=true) (fun bs y q=>⟨by rw [kn3_len]; exact q.1,kn3_mono q.2⟩) (fun bs y q=>kn3_mono q) (x:=h) (fun bs q=>?_) (List.mem_range.mpr hh) q
    unfold kn3
    rw [if_pos ⟨q.2,hne,he⟩]
    exact set_get.mpr (.inl ⟨rfl,by rw [q.1]; exact hh⟩)
  · have:∀ g,g < n->(kn1 n tb x t).getD g false=true->x.getD g false=true:=by
      refine fold_inv (P:=fun bs:List Bool=>∀ g,g < n->bs.getD g false=true->x.getD g false=true) (fun bs i hi hb=>?_) fun g _ q=>q
      refine fold_inv (P:=fun bs:List Bool=>∀ g,g < n->bs.getD g false=true->x.getD g false=true) (fun bs j hj hb g hg q=>?_) hb
      unfold kn3 at q
      split at q
      · rename_i cc
        rcases set_get.mp q with ⟨rfl,_⟩ | q
        · exact c i g (List.mem_range.mp hi) hg cc.2.1 cc.2.2 (hb i (List.mem_range.mp hi) cc.1)
        · exact hb g hg q
      · exact hb g hg q
    exact this h hh hm
theorem known_rc (n:Nat) (tb:List (List Int)) {h:Nat} (hh:h < n):(knownF n tb).getD h false=true <-> Rc n tb h:=by
  constructor
  · have:∀ g,g < n->(knownF n tb).getD g false=true->Rc n tb g:=by
      refine fold_inv (P:=fun bs:List Bool=>∀ g,g < n->bs.getD g false=true->Rc n tb g) (fun bs t _ hb=>?_) fun g hg q=>?_
      · refine fold_inv (P:=fun bs:List Bool=>∀ g,g < n->bs.getD g false=true->Rc n tb g) (fun bs i hi hb=>?_) hb
        refine fold_inv (P:=fun bs:List Bool=>∀ g,g < n->bs.getD g false=true->Rc n tb g) (fun bs j hj hb g hg q=>?_) hb
        unfold kn3 at q
        split at q
        · rename_i cc
          rcases set_get.mp q with ⟨rfl,_⟩ | q
          · exact .lent (hb i (List.mem_range.mp hi) cc.1) hg cc.2.2
          · exact hb g hg q
        · exact hb g hg q
      · unfold knInit at q
        rw [List.getD,List.getElem?_map,List.getElem?_range hg] at q
        exact .made hg (by simpa using q)
    exact this h hh
  · intro r
    induction r with
    | made hl hm=>
      refine fold_inv (P:=fun bs:List Bool=>bs.getD _ false=true) (fun bs t _ q=>kn1_mono q) ?_
      unfold knInit
      rw [List.getD,List.getElem?_map,List.getElem?_range hl]
      simpa using hm
    | @lent o g r hl he ih=>
      by_cases e:o=g
      · subst e; exact ih r.lt
      · exact known_closed n tb o g r.lt hl e he (ih r.lt)
def RdOk (n:Nat) (fs:List Nat):Prop:=(∀ x ∈ fs,x < n)/\fs.Nodup
theorem nodup_len:∀ {n:Nat} {fs:List Nat},(∀ x ∈ fs,x < n)->fs.Nodup->fs.length<=n
  | 0,[],_,_=>Nat.le_refl _
  | 0,x :: _,h,_=>absurd (h x List.mem_cons_self) (Nat.not_lt_zero _)
  | n + 1,fs,h,d=>by
    by_cases hm:n ∈ fs
    · have h1:(fs.erase n).length<=n:=nodup_len (fun x hx=>by
        have h2:=(d.mem_erase_iff).mp hx
        have:=h x h2.2
        omega) (d.erase n)
      rw [List.length_erase_of_mem hm] at h1
      omega
    · have:=nodup_len (n:=n) (fs:=fs) (fun x hx=>by
        have:=h x hx
        have:x ≠ n:=fun e=>hm (e ▸ hx)
        omega) d
      omega
theorem RdOk.len {n:Nat} {fs:List Nat} (h:RdOk n fs):fs.length<=n:=nodup_len h.1 h.2
def AhN (tb:List (List Int)) (fs:List Nat):Prop:=∀ k,k < fs.length->madeF tb (fs.getD k 0)=true\/∃ o ∈ fs.take k,0 < ent tb o (fs.getD k 0)
theorem AhN.snoc {tb:List (List Int)} {fs:List Nat} {h:Nat} (a:AhN tb fs) (ha:madeF tb h=true\/∃ o ∈ fs,0 < ent tb o h):AhN tb (fs ++ [h]):=by
  intro k hk
  rw [List.length_append,List.length_singleton] at hk
  by_cases e:k < fs.length
  · have:=a k e
    rw [List.take_append_of_le_length (by omega)]
    rw [show (fs ++ [h]).getD k 0=fs.getD k 0 by rw [List.getD,List.getD,List.getElem?_append_left e]]
    exact this
  · have:k=fs.length:=by omega
    subst this
    rw [show (fs ++ [h]).getD fs.length 0=h by simp [List.getD]]
    rw [List.take_left]
    exact ha
def intsN (fs:List Nat):List Int:=fs.map fun k:Nat=>(k:Int)
def rdS (st:Store) (fs:List Nat):Store:=st ++ [Cell.lst (fs.map intV)]
theorem rdS_at (st:Store) (fs:List Nat):(rdS st fs)[st.length]?=some (.lst (fs.map intV)):=by unfold rdS; simp
theorem intsN_map (fs:List Nat):(intsN fs).map PV.int=fs.map intV:=by unfold intsN; rw [List.map_map]; rfl
theorem intsN_mem {fs:List Nat} {h:Nat}:(h:Int) ∈ intsN fs <-> h ∈ fs:=by
  unfold intsN
  rw [List.mem_map]
  constructor
  · rintro ⟨k,hk,e⟩
    have:k=h:=by omega
    rw [<- this]; exact hk
  · intro q; exact ⟨h,q,rfl⟩
def othF (n:Nat) (fs:List Nat):List Nat:=(List.range n).filter fun h=>!decide (h ∈ fs)
def fndF (n:Nat) (tb:List (List Int)) (fs:List Nat):List Nat:=(othF n fs).filter fun h=>rootsF tb h fs
structure GdR (n:Nat) (tb:List (List Int)) (fs:List Nat):Prop where
  rd:RdOk n fs
  ah:AhN tb fs
  rc:∀ h ∈ fs,Rc n tb h
theorem AhN.more {tb:List (List Int)}:∀ {ds fs:List Nat},AhN tb fs->(∀ h ∈ ds,madeF tb h=true\/∃ o ∈ fs,0 < ent tb o h)->AhN tb (fs ++ ds)
  | [],fs,a,_=>by rw [List.append_nil]; exact a
  | d :: ds,fs,a,h=>by
    rw [show fs ++ d :: ds=(fs ++ [d]) ++ ds by simp]
    refine AhN.more (a.snoc (h d List.mem_cons_self)) fun g hg=>?_
    rcases h g (List.mem_cons_of_mem _ hg) with q | ⟨o,ho,q⟩
    · exact .inl q
    · exact .inr ⟨o,List.mem_append_left _ ho,q⟩
theorem fnd_mem {n:Nat} {tb:List (List Int)} {fs:List Nat} {h:Nat} (q:h ∈ fndF n tb fs):h < n/\h ∉ fs/\(madeF tb h=true\/∃ o ∈ fs,0 < ent tb o h):=by
  obtain ⟨q1,q2⟩:=List.mem_filter.mp q
  obtain ⟨q3,q4⟩:=List.mem_filter.mp q1
  refine ⟨List.mem_range.mp q3,by simpa using q4,?_⟩
  unfold rootsF lentF at q2
  rw [Bool.or_eq_true] at q2
  rcases q2 with q2 | q2
  · exact .inl q2
  · obtain ⟨o,ho,e⟩:=List.any_eq_true.mp q2
    rw [Bool.and_eq_true] at e
    exact .inr ⟨o,ho,by simpa using e.2⟩
theorem GdR.step {n:Nat} {tb:List (List Int)} {fs:List Nat} (g:GdR n tb fs):GdR n tb (fs ++ fndF n tb fs):=by
  refine ⟨⟨fun x hx=>?_,?_⟩,g.ah.more fun h q=>(fnd_mem q).2.2,fun h hx=>?_⟩
  · rcases List.mem_append.mp hx with hx | hx
    · exact g.rd.1 x hx
    · exact (fnd_mem hx).1
  · refine List.nodup_append.mpr ⟨g.rd.2,(List.nodup_range.filter _).filter _,fun a ha b hb e=>?_⟩
    subst e
    exact (fnd_mem hb).2.1 ha
  · rcases List.mem_append.mp hx with hx | hx
    · exact g.rc h hx
    · obtain ⟨h1,_,h2 | ⟨o,ho,he⟩⟩:=fnd_mem hx
      · exact .made h1 h2
      · exact .lent (g.rc o ho) h1 he
theorem GdR.closed {n:Nat} {tb:List (List Int)} {fs:List Nat} (g:GdR n tb fs) (hc:fndF n tb fs=[]) {h:Nat} (hh:h < n):h ∈ fs <-> Rc n tb h:=by
  refine ⟨g.rc h,fun r=>?_⟩
  have hno:∀ k,k < n->k ∉ fs->rootsF tb k fs=false:=fun k hk hm=>by
    cases e:rootsF tb k fs with
    | false=>rfl
    | true=>
      have:k ∈ fndF n tb fs:=List.mem_filter.mpr ⟨List.mem_filter.mpr ⟨List.mem_range.mpr hk,by simp [hm]⟩,e⟩
      rw [hc] at this
      cases this
  induction r with
  | @made k hl hm=>
    refine Classical.byContradiction fun q=>?_
    have:=hno k hl q
    unfold rootsF at this
    rw [hm] at this
    cases this
  | @lent o k r hl he ih=>
    refine Classical.byContradiction fun q=>?_
    have:=hno k hl q
    unfold rootsF lentF at this
    rw [Bool.or_eq_false_iff,List.any_eq_false] at this
    have ho:=ih r.lt
    have hne:o ≠ k:=fun e=>q (e ▸ ho)
    exact this.2 o ho (by simp [hne,he])
theorem rt_turn {n:Nat} {tb:List (List Int)} (z:Sz n tb) (hn:n<=100) (st:Store) (fs:List Nat) (r:RdOk n fs) (b a c:Option PV):b_rooted_houses_1 [some (tabV tb),some (.ref st.length),b,a,c] (rdS st fs)=.nx [some (tabV tb),some (.ref st.length),some (.bl (decide (0 < (fndF n tb fs).length))),some (.lst ((othF n fs).map intV)),some (.lst ((fndF n tb fs).map intV))] (rdS st (fs ++ fndF n tb fs)):=by
  have hn1:-1000000<=(n:Int)/\(n:Int)<=1000000:=by omega
  have hql:=r.len
  have hS:=rdS_at st fs
  have hat:ListAt (rdS st fs) (.ref st.length) ((intsN fs).map .int):=.inr (.inr ⟨_,rfl,by rw [intsN_map]; exact hS⟩)
  have hat2:ListAt (rdS st fs) (.ref st.length) (fs.map intV):=.inr (.inr ⟨_,rfl,hS⟩)
  have hln:cLen (rdS st fs) [tabV tb]=.ok (.int n) (rdS st fs):=by simp [tabV,z.1]
  have hc1:compG (gaName 0) t_rooted_houses_1 e_rooted_houses_1 [] (capG [none,some 1] [some (tabV tb),some (.ref st.length),b,a,c]) (rangeI 0 n) (rdS st fs)=.ok ((othF n fs).map intV) (rdS st fs):=by
    rw [rangeI0]
    refine compG_onF _ _ _ (by simp) fun j hj=>⟨_,rfl,?_,fun ht=>?_⟩
    · have hin:=in_ok hat (j:Int) true
      by_cases q:j ∈ fs
      · have q':(j:Int) ∈ intsN fs:=intsN_mem.mpr q
        generalize rdS st fs=S at *
        simp -implicitDefEqProofs [capG,t_rooted_houses_1,hin,q,q']
      · have q':¬ (j:Int) ∈ intsN fs:=fun z=>q (intsN_mem.mp z)
        generalize rdS st fs=S at *
        simp -implicitDefEqProofs [capG,t_rooted_houses_1,hin,q,q']
    · simp [capG,e_rooted_houses_1,intV]
  have hol:(othF n fs).length<=n:=by
    have:=List.length_filter_le (fun h=>!decide (h ∈ fs)) (List.range n)
    rw [List.length_range] at this
    exact this
  have hon:∀ h ∈ othF n fs,h < n:=fun h hh=>List.mem_range.mp (List.mem_filter.mp hh).1
  have hc2:compG (gaName 0) t_rooted_houses_2 e_rooted_houses_2 [] (capG [none,some 0,some 1] [some (tabV tb),some (.ref st.length),b,some (.lst ((othF n fs).map intV)),c]) ((othF n fs).map intV) (rdS st fs)=.ok ((fndF n tb fs).map intV) (rdS st fs):=by
    unfold fndF
    refine compG_onF _ _ _ (by simp) fun j hj=>⟨_,rfl,?_,fun ht=>?_⟩
    · have hr:=root_ok z (h:=j) (hon j hj) r.1 (by omega) hat2
      generalize rootsF tb j fs=rb at *
      generalize rdS st fs=S at *
      generalize (othF n fs).map intV=ov at *
      simp -implicitDefEqProofs [capG,t_rooted_houses_2,intV,hr]
    · simp [capG,e_rooted_houses_2,intV]
  have hfl:(fndF n tb fs).length<=n:=Nat.le_trans (List.length_filter_le _ _) hol
  have hset:(rdS st fs).set st.length (.lst (fs.map intV ++ (fndF n tb fs).map intV))=rdS st (fs ++ fndF n tb fs):=by
    unfold rdS
    rw [List.map_append]
    simp
  have l1:((othF n fs).map intV).length<=1000000:=by rw [List.length_map]; omega
  have l2:(fs.map intV).length + ((fndF n tb fs).map intV).length<=1000000:=by rw [List.length_map,List.length_map]; omega
  have l3:((fndF n tb fs).map intV).length=(fndF n tb fs).length:=List.length_map _
  generalize rdS st (fs ++ fndF n tb fs)=S2 at *
  generalize rdS st fs=S at *
  generalize (othF n fs).map intV=ov at *
  generalize (fndF n tb fs).length=fl at *
  generalize (fndF n tb fs).map intV=fv at *
  generalize fs.map intV=xv at *
  rw [l3] at l2
  simp -implicitDefEqProofs [b_rooted_houses_1,hln,hn1,lim_eq,hc1,l1,hc2,hS,mtExtend,chg,l2,l3,hset]
theorem rt_while {n:Nat} {tb:List (List Int)} (z:Sz n tb) (hn:n<=100) (st:Store):∀ (m fuel:Nat) (fs:List Nat) (a c:Option PV),GdR n tb fs->n<=fs.length + m->m + 2<=fuel->∃ fs' b' a' c',GdR n tb fs'/\fndF n tb fs'=[]/\whileG w_rooted_houses_1 b_rooted_houses_1 fuel [some (tabV tb),some (.ref st.length),some (.bl true),a,c] (rdS st fs)=.nx [some (tabV tb),some (.ref st.length),b',a',c'] (rdS st fs')
  | m,0,_,_,_,_,_,h=>absurd h (by omega)
  | m,1,_,_,_,_,_,h=>absurd h (by omega)
  | m,k + 2,fs,a,c,g,hm,hf=>by
    have ht:=rt_turn z hn st fs g.rd (some (.bl true)) a c
    have w1:∀ S,w_rooted_houses_1 [some (tabV tb),some (.ref st.length),some (.bl true),a,c] S=.ok true S:=fun S=>by simp [w_rooted_houses_1]
    by_cases e:fndF n tb fs=[]
    · refine ⟨fs,some (.bl false),some (.lst ((othF n fs).map intV)),some (.lst ((fndF n tb fs).map intV)),g,e,?_⟩
      rw [whileG,w1]
      simp only [sbind_ok,if_true,ht]
      rw [whileG]
      have w2:∀ S,w_rooted_houses_1 [some (tabV tb),some (.ref st.length),some (.bl (decide (0 < (fndF n tb fs).length))),some (.lst ((othF n fs).map intV)),some (.lst ((fndF n tb fs).map intV))] S=.ok false S:=fun S=>by simp [w_rooted_houses_1,e]
      rw [w2]
      simp [e]
    · have hp:0 < (fndF n tb fs).length:=List.length_pos_iff.mpr e
      have g':=g.step
      have hl':=g'.rd.len
      rw [List.length_append] at hl'
      cases m with
      | zero=>omega
      | succ m=>
        obtain ⟨fs',b',a',c',h1,h2,h3⟩:=rt_while z hn st m (k + 1) (fs ++ fndF n tb fs) (some (.lst ((othF n fs).map intV))) (some (.lst ((fndF n tb fs).map intV))) g' (by rw [List.length_append]; omega) (by omega)
        refine ⟨fs',b',a',c',h1,h2,?_⟩
        rw [whileG,w1]
        rw [decide_eq_true hp] at ht
        simp only [sbind_ok,if_true,ht]
        exact h3
theorem rooted_run {n:Nat} {tb:List (List Int)} (z:Sz n tb) (hn:n<=100) (st:Store):∃ fs,GdR n tb fs/\fndF n tb fs=[]/\m_rooted_houses [some (tabV tb),none,none,none,none] st=.rt (.ref st.length) (rdS st fs):=by
  obtain ⟨fs,b',a',c',g,e,h⟩:=rt_while z hn st n 100000 [] none none ⟨⟨fun x hx=>(by cases hx),List.nodup_nil⟩,fun k hk=>absurd hk (Nat.not_lt_zero _),fun x hx=>(by cases hx)⟩ (by simp) (by omega)
  refine ⟨fs,g,e,?_⟩
  have hS:st ++ [Cell.lst []]=rdS st []:=rfl
  generalize rdS st fs=S2 at *
  generalize rdS st []=S1 at *
  simp -implicitDefEqProofs [m_rooted_houses,lim_eq,hS,h]
theorem rooted_ok {n:Nat} {tb:List (List Int)} (z:Sz n tb) (hn:n<=100) (st:Store):∃ fs,GdR n tb fs/\fndF n tb fs=[]/\F_rooted_houses [tabV tb] st=.ok (.lst (fs.map intV)) st:=by
  obtain ⟨fs,g,e,h⟩:=rooted_run z hn st
  refine ⟨fs,g,e,?_⟩
  have hfz:=fz_ints (n:=st.length) (r:=st.length) (S:=rdS st fs) (hs:=intsN fs) (Nat.le_refl _) (by rw [intsN_map]; exact rdS_at _ _)
  rw [intsN_map] at hfz
  have hpre:st <+: rdS st fs:=List.prefix_append _ _
  generalize rdS st fs=S2 at *
  show callF m_rooted_houses 5 [tabV tb] st=_
  unfold callF
  rw [show (([tabV tb]:List PV).map some ++ List.replicate (5 - [tabV tb].length) none)=[some (tabV tb),none,none,none,none] from rfl,h]
  show Sm.fin st (.ref st.length) S2=_
  unfold Sm.fin
  rw [if_pos hpre,hfz]
  rfl
theorem rc_dec {n:Nat} {tb:List (List Int)} {fs:List Nat} (g:GdR n tb fs) (hc:fndF n tb fs=[]):((List.range n).all fun h=>(knownF n tb).getD h false || !busyF tb h)=(List.range n).all fun h=>decide (h ∈ fs) || !busyF tb h:=by
  rw [Bool.eq_iff_iff,List.all_eq_true,List.all_eq_true]
  have hh:∀ h,h ∈ List.range n->(decide (h ∈ fs) || !busyF tb h)=((knownF n tb).getD h false || !busyF tb h):=fun h hm=>by
    have hlt:=List.mem_range.mp hm
    congr 1
    rw [Bool.eq_iff_iff,decide_eq_true_iff,g.closed hc hlt,known_rc n tb hlt]
  constructor <;> intro q x hx
  · rw [hh x hx]; exact q x hx
  · rw [<- hh x hx]; exact q x hx
def reachF (n:Nat) (tb:List (List Int)):Bool:=(List.range n).all fun h=>(knownF n tb).getD h false || !busyF tb h
theorem oth_busy {n:Nat} {tb:List (List Int)} {fs:List Nat} (g:GdR n tb fs) (hc:fndF n tb fs=[]):(othF n fs).any (busyF tb)=!reachF n tb:=by
  unfold reachF
  rw [rc_dec g hc]
  unfold othF
  rw [List.any_filter,List.any_eq_not_all_not]
  congr 2
  funext h
  rw [Bool.not_and,Bool.not_not]
theorem forG_first {α:Type} (g:α->PV) (J:Gam->Prop) (Pd:α->Bool) (v:α->PV) {ga:GA} {body:MS} {w:Wt} {st:Store} (hw:wOk w st):∀ {xs:List α},(∀ x ∈ xs,∀ Γ,J Γ->∃ Γ1,ga (g x) Γ=some Γ1/\(Pd x=true->∃ Γ2,J Γ2/\body Γ1 st=.nx Γ2 st)/\(Pd x=false->body Γ1 st=.rt (v x) st)) ->
    ∀ Γ,J Γ->(xs.all Pd=true->∃ Γ',J Γ'/\forG ga body w (xs.map g) Γ st=.nx Γ' st)/\(xs.all Pd=false->∃ x ∈ xs,Pd x=false/\forG ga body w (xs.map g) Γ st=.rt (v x) st)
  | [],_,Γ,hJ=>⟨fun _=>⟨Γ,hJ,by simp [forG,hw]⟩,fun h=>by simp at h⟩
  | x :: xs,h,Γ,hJ=>by
    obtain ⟨Γ1,h1,h2,h3⟩:=h x List.mem_cons_self Γ hJ
    rw [List.map_cons,forG,if_pos hw,h1]
    cases px:Pd x with
    | false=>
      refine ⟨fun z=>by simp [px] at z,fun _=>⟨x,List.mem_cons_self,px,?_⟩⟩
      simp only [h3 px]
    | true=>
      obtain ⟨Γ2,j2,e2⟩:=h2 px
      have ih:=forG_first g J Pd v (ga:=ga) (body:=body) hw (xs:=xs) (fun y hy=>h y (List.mem_cons_of_mem _ hy)) Γ2 j2
      simp only [e2,List.all_cons,px,Bool.true_and]
      exact ⟨ih.1,fun q=>by
        obtain ⟨y,hy,p,e⟩:=ih.2 q
        exact ⟨y,List.mem_cons_of_mem _ hy,p,e⟩⟩
theorem is_row_ok (r:List Int) (n:Int) (st:Store) (hl:r.length<=lim):F_is_row [rowV r,.int n] st=.ok (.bl (decide ((r.length:Int)=n + 1) && r.all fun i=>decide (0<=i))) st:=by
  have hc:compG (gaName 0) mTrue e_is_row_1 [] (capG [none] [some (rowV r),some (.int n)]) (r.map .int) st=.ok (r.map fun i=>.bl (decide (0<=i))) st:=by
    refine compG_on _ _ (by simp) fun i hi=>⟨_,rfl,?_⟩
    simp [capG,e_is_row_1,is_whole_int]
  unfold rowV at hc ⊢
  by_cases h:(r.length:Int)=n + 1 <;> simp [F_is_row,callF,m_is_row,isI,tyN,hc,h,hl,all_id]
theorem is_table_ok {n:Nat} {tb:List (List Int)} (w:Wt' n tb) (st:Store):F_is_table [tabV tb] st=.ok (.bl true) st:=by
  have h1:=w.n1
  have h8:=w.n8
  have hc:compG (gaName 0) mTrue e_is_table_1 [] (capG [none,some 0] [some (tabV tb)]) (tb.map rowV) st=.ok (tb.map fun _=>.bl true) st:=by
    refine compG_on _ _ (by simp) fun r hr=>⟨_,rfl,?_⟩
    have e:=w.row r hr
    have e2:=is_row_ok r tb.length st (by rw [e,lim_eq]; omega)
    simp [capG,e_is_table_1,tabV,e2]
    rw [w.len,e]
    exact ⟨by omega,w.nn r hr⟩
  unfold tabV at hc ⊢
  have h1':(1:Int)<=n:=by omega
  have h8':(n:Int)<=8:=by omega
  have hl:n<=1000000:=by omega
  simp [F_is_table,callF,m_is_table,isI,tyN,hc,w.len,all_id,h1',h8',lim_eq,hl]
def comesB (n:Nat) (tb:List (List Int)):Bool:=((List.range n).all fun h=>decide (0<=rightsF tb h)) && reachF n tb
theorem rootless_houses_okF {n:Nat} {tb:List (List Int)} (z:Sz n tb) (hn:n<=100) (st:Store):∃ us:List Nat,us.length<=n/\(us=[] <-> reachF n tb=true)/\F_rootless_houses [tabV tb] st=.ok (.lst (us.map intV)) st:=by
  obtain ⟨fs,g,hc,e⟩:=rooted_ok z hn st
  have hn1:-1000000<=(n:Int)/\(n:Int)<=1000000:=by omega
  have hln:cLen st [tabV tb]=.ok (.int n) st:=by simp [tabV,z.1]
  have hat:ListAt st (.lst (fs.map intV)) ((intsN fs).map .int):=.inl (by rw [intsN_map])
  have hc1:compG (gaName 0) t_rootless_houses_1 e_rootless_houses_1 [] (capG [none,some 1] [some (tabV tb),some (.lst (fs.map intV)),none]) (rangeI 0 n) st=.ok ((othF n fs).map intV) st:=by
    rw [rangeI0]
    refine compG_onF _ _ _ (by simp) fun j hj=>⟨_,rfl,?_,fun ht=>?_⟩
    · have hin:=in_ok hat (j:Int) true
      by_cases q:j ∈ fs
      · have q':(j:Int) ∈ intsN fs:=intsN_mem.mpr q
        generalize fs.map intV=fv at *
        simp -implicitDefEqProofs [capG,t_rootless_houses_1,hin,q,q']
      · have q':¬ (j:Int) ∈ intsN fs:=fun z=>q (intsN_mem.mp z)
        generalize fs.map intV=fv at *
        simp -implicitDefEqProofs [capG,t_rootless_houses_1,hin,q,q']
    · simp [capG,e_rootless_houses_1,intV]
  have hol:(othF n fs).length<=n:=by
    have:=List.length_filter_le (fun h=>!decide (h ∈ fs)) (List.range n)
    rw [List.length_range] at this
    exact this
  have hon:∀ h ∈ othF n fs,h < n:=fun h hh=>List.mem_range.mp (List.mem_filter.mp hh).1
  have hob:=oth_busy g hc
  have hc2:compG (gaName 0) mTrue e_rootless_houses_2 [] (capG [none,some 0] [some (tabV tb),some (.lst (fs.map intV)),some (.lst ((othF n fs).map intV))]) ((othF n fs).map intV) st=.ok (((othF n fs).map (busyF tb)).map .bl) st:=by
    rw [List.map_map]
    refine compG_on _ _ (by simp) fun j hj=>⟨_,rfl,?_⟩
    have hb:=busy_ok z (hon j hj) st
    show _=Res.ok (PV.bl (busyF tb j)) st
    generalize busyF tb j=rb at *
    simp -implicitDefEqProofs [capG,e_rootless_houses_2,intV,hb]
  have ha:(othF n fs).any (busyF tb)=((othF n fs).map (busyF tb)).any id:=(any_id _ _).symm
  have l1:((othF n fs).map intV).length<=1000000:=by rw [List.length_map]; omega
  have hgd:fin st (.lst ((othF n fs).map intV)) st=.ok (.lst ((othF n fs).map intV)) st:=fin_good (by simp [good,intV])
  have hgn:fin st (.lst []) st=.ok (.lst []) st:=fin_good (by simp [good])
  cases hr:reachF n tb with
  | true=>
    refine ⟨[],by simp,by simp,?_⟩
    rw [hr,ha] at hob
    rw [List.map_nil]
    generalize (othF n fs).map (busyF tb)=bs at *
    generalize (othF n fs).map intV=ov at *
    have hob:bs.any id=false:=hob
    simp -implicitDefEqProofs [F_rootless_houses,callF,m_rootless_houses,e,hln,hn1,lim_eq,hc1,l1,hc2,hob,hgn]
  | false=>
    rw [hr] at hob
    refine ⟨othF n fs,hol,⟨fun q=>?_,fun q=>by cases q⟩,?_⟩
    · rw [q] at hob; cases hob
    · rw [ha] at hob
      have hob:((othF n fs).map (busyF tb)).any id=true:=hob
      generalize (othF n fs).map (busyF tb)=bs at *
      generalize (othF n fs).map intV=ov at *
      simp -implicitDefEqProofs [F_rootless_houses,callF,m_rootless_houses,e,hln,hn1,lim_eq,hc1,l1,hc2,hob,hgd]
theorem comes_okF {n:Nat} {tb:List (List Int)} (z:Sz n tb) (hn:n<=100) (st:Store):∃ (s:Str) (v:PV),F_comes_about [tabV tb] st=.ok (.tup [.str s,v]) st/\(s == (Str.ofString "comes"))=comesB n tb:=by
  have hn1:-1000000<=(n:Int)/\(n:Int)<=1000000:=by omega
  have hln:∀ S,cLen S [tabV tb]=.ok (.int n) S:=fun S=>by simp [tabV,z.1]
  have L:=forG_first (fun k:Nat=>PV.int (k:Int)) (fun Γ=>∃ a,Γ=[some (tabV tb),a,none]) (fun h=>decide (0<=rightsF tb h)) (fun h=>.tup [.str "short",.int h]) (ga:=gaName 1) (body:=b_comes_about_1) (w:=[]) (st:=st) (by simp) (xs:=List.range n) (fun h hh Γ ⟨a,e⟩=>by
    subst e
    have hr:=rights_ok z hn (List.mem_range.mp hh) st
    refine ⟨_,rfl,fun hp=>⟨[some (tabV tb),some (.int h),none],⟨_,rfl⟩,?_⟩,fun hp=>?_⟩
    · have hnn:0<=rightsF tb h:=by simpa using hp
      have:¬ (rightsF tb h < 0):=by omega
      generalize rightsF tb h=x at *
      simp -implicitDefEqProofs [b_comes_about_1,hr,this]
    · have hnn:¬ 0<=rightsF tb h:=by simpa using hp
      have:rightsF tb h < 0:=by omega
      generalize rightsF tb h=x at *
      simp -implicitDefEqProofs [b_comes_about_1,hr,this,lim_eq])
  have L:=L [some (tabV tb),none,none] ⟨_,rfl⟩
  rw [<- rangeI0] at L
  unfold comesB
  cases ha:(List.range n).all fun h=>decide (0<=rightsF tb h) with
  | false=>
    obtain ⟨h,hh,hp,e⟩:=L.2 ha
    refine ⟨"short",.int h,?_,by rw [Bool.false_and]; decide +kernel⟩
    have hg:fin st (.tup [.str "short",.int h]) st=.ok (.tup [.str "short",.int h]) st:=fin_good (by simp [good])
    simp -implicitDefEqProofs [F_comes_about,callF,m_comes_about,hln,hn1,lim_eq,e,hg]
  | true=>
    obtain ⟨Γ',⟨a,rfl⟩,e⟩:=L.1 ha
    obtain ⟨us,hl,hne,e1⟩:=rootless_houses_okF z hn st
    cases hr:reachF n tb with
    | true=>
      have hu:=hne.mpr hr
      subst hu
      obtain ⟨fs,g,hc,e2⟩:=rooted_ok z hn st
      refine ⟨"comes",.lst (fs.map intV),?_,by rw [Bool.true_and]; decide +kernel⟩
      have hg:fin st (.tup [.str "comes",.lst (fs.map intV)]) st=.ok (.tup [.str "comes",.lst (fs.map intV)]) st:=fin_good (by simp [good,intV])
      rw [List.map_nil] at e1
      generalize fs.map intV=fv at *
      simp -implicitDefEqProofs [F_comes_about,callF,m_comes_about,hln,hn1,lim_eq,e,e1,e2,hg]
    | false=>
      have hu:us ≠ []:=fun q=>by rw [hne.mp q] at hr; cases hr
      refine ⟨"rootless",.lst (us.map intV),?_,by rw [Bool.true_and]; decide +kernel⟩
      have hp:0 < (us.map intV).length:=by rw [List.length_map]; exact List.length_pos_iff.mpr hu
      have hg:fin st (.tup [.str "rootless",.lst (us.map intV)]) st=.ok (.tup [.str "rootless",.lst (us.map intV)]) st:=fin_good (by simp [good,intV])
      generalize us.map intV=uv at *
      simp -implicitDefEqProofs [F_comes_about,callF,m_comes_about,hln,hn1,lim_eq,e,e1,hp,hg]
theorem does_ok {n:Nat} {tb:List (List Int)} (w:Wt' n tb) (st:Store):F_does_come_about [tabV tb] st=.ok (.bl (comesB n tb)) st:=by
  have h8:=w.n8
  obtain ⟨s,v,e,hs⟩:=comes_okF w.sz (by omega) st
  have ht:=is_table_ok w st
  rw [<- hs]
  generalize tabV tb=T at *
  simp -implicitDefEqProofs [F_does_come_about,callF,m_does_come_about,ht,e,atI,ixN]
structure TabLike (st:Store) (V:PV) (n:Nat) (tb:List (List Int)):Prop where
  len:cLen st [V]=.ok (.int n) st
  row:∀ i,i < n->∃ R,oIx st V (.int i)=.ok R st/\∀ j,j<=n->oIx st R (.int j)=.ok (.int (ent tb i j)) st
theorem TabLike.tab {n:Nat} {tb:List (List Int)} (z:Sz n tb) (st:Store):TabLike st (tabV tb) n tb:=
  ⟨by simp [tabV,z.1],fun i hi=>⟨_,(cell_ix z hi (Nat.zero_le n) st).1,fun j hj=>(cell_ix z hi hj st).2⟩⟩
def lrF (tb:List (List Int)) (h i:Nat):Int:=upto i fun o=>ent tb o h - if o ≠ h then ent tb h o else 0
theorem lrights_ok {st:Store} {V:PV} {n h:Nat} {tb:List (List Int)} (T:TabLike st V n tb) (hn:n<=100) (hh:h < n):F__law_b_rights [V,.int h] st=.ok (.int (lrF tb h n - ent tb h n)) st:=by
  have hn1:-1000000<=(n:Int)/\(n:Int)<=1000000:=by omega
  obtain ⟨Rh,h1,h2⟩:=T.row h hh
  have hln:=T.len
  obtain ⟨Γ',st',e,c',rfl,rfl⟩:=forG_inv (g:=fun k:Nat=>PV.int (k:Int)) (xs:=List.range n) (ga:=gaName 4) (body:=b__law_b_rights_1) (w:=[]) (Γ:=[some V,some (.int h),some (.int n),some (.int 0),none]) (st:=st)
    (fun i Γ st'=>∃ c',Γ=[some V,some (.int h),some (.int n),some (.int (lrF tb h i)),c']/\st'=st)
    (fun _ _ _ _=>by simp)
    (fun i o Γ st' hx ⟨c',e1,e2⟩=>by
      subst e1; subst e2
      have hin:i < n:=by simpa using (List.getElem?_eq_some_iff.mp hx).1
      have hxi:o=i:=by
        rw [List.getElem?_range hin] at hx
        exact (Option.some.inj hx).symm
      subst hxi
      obtain ⟨Ro,g1,g2⟩:=T.row o hin
      have g2:=g2 h (Nat.le_of_lt hh)
      have h2:=h2 o (Nat.le_of_lt hin)
      refine ⟨_,rfl,[some V,some (.int h),some (.int n),some (.int (lrF tb h (o + 1))),some (.int o)],st',?_,_,rfl,rfl⟩
      unfold lrF
      rw [upto_succ]
      generalize (upto o fun o=>ent tb o h - if o ≠ h then ent tb h o else 0)=x at *
      generalize ent tb o h=y at *
      generalize ent tb h o=y2 at *
      by_cases q:o=h
      · subst q
        simp -implicitDefEqProofs [b__law_b_rights_1,g1,g2]
      · have q':¬ ((o:Int)=h):=by omega
        have eqn:x + (y - y2)=x + y - y2:=by omega
        simp -implicitDefEqProofs [b__law_b_rights_1,g1,g2,q,q',h1,h2,eqn])
    ⟨none,rfl,rfl⟩
  rw [List.length_range] at e
  rw [<- rangeI0] at e
  have h2:=h2 n (Nat.le_refl n)
  generalize lrF tb h n=x at *
  generalize ent tb h n=y at *
  simp -implicitDefEqProofs [F__law_b_rights,callF,m__law_b_rights,hln,hn1,lim_eq,e,h1,h2]
theorem lr_eq {n h:Nat} {tb:List (List Int)} (z:Sz n tb) (hh:h < n):lrF tb h n - ent tb h n=rightsF tb h:=by
  rw [rightsF_eq z hh]
  unfold lrF
  rw [upto_sub,upto_but (fun j=>ent tb h j) hh]
  omega
theorem fin_blp {st S:Store} (h:st <+: S) (b:Bool):fin st (.bl b) S=.ok (.bl b) st:=by simp [fin,fz,h]
def lcF (n:Nat) (tb:List (List Int)) (h:Nat):Bool:=decide (0<=rightsF tb h) && (!busyF tb h || (knownF n tb).getD h false)
theorem lcF_all (n:Nat) (tb:List (List Int)):(List.range n).all (lcF n tb)=comesB n tb:=by
  unfold comesB reachF
  rw [Bool.eq_iff_iff,Bool.and_eq_true,List.all_eq_true,List.all_eq_true,List.all_eq_true]
  unfold lcF
  constructor
  · intro h
    refine ⟨fun x hx=>?_,fun x hx=>?_⟩
    · have:=h x hx; rw [Bool.and_eq_true] at this; exact this.1
    · have:=h x hx; rw [Bool.and_eq_true] at this; rw [Bool.or_comm]; exact this.2
  · rintro ⟨h1,h2⟩ x hx
    rw [Bool.and_eq_true]
    exact ⟨h1 x hx,by rw [Bool.or_comm]; exact h2 x hx⟩
theorem busy_comp {n h:Nat} {tb:List (List Int)} (z:Sz n tb) (hh:h < n) (st:Store) (Γ:Gam) (h0:Γ[0]?=some (some (tabV tb))) (h6:Γ[6]?=some (some (.int h))):compG (gaName 0) t__law_b_comes_2 e__law_b_comes_2 [] (capG [none,some 0,some 6] Γ) (rangeI 0 (n + 1)) st=.ok ((((List.range (n + 1)).filter fun j=>decide (j ≠ h)).map fun j=>decide (0 < ent tb h j)).map .bl) st:=by
  rw [rangeI0,List.map_map]
  refine compG_onF _ _ _ (by simp) fun j hj=>⟨_,rfl,?_,fun ht=>?_⟩
  · by_cases e:j=h
    · simp [capG,t__law_b_comes_2,e,h0,h6]
    · have:¬ ((j:Int)=h):=by omega
      simp [capG,t__law_b_comes_2,e,this,h0,h6]
  · obtain ⟨c1,c2⟩:=cell_ix z hh (show j<=n by have:=List.mem_range.mp hj; omega) st
    show _=Res.ok (PV.bl (decide (0 < ent tb h j))) st
    generalize ent tb h j=x at *
    generalize tb.getD h []=r at *
    simp [capG,e__law_b_comes_2,c1,c2,h0,h6]
theorem busyR_any (n h:Nat) (tb:List (List Int)):busyR n tb h=(((List.range (n + 1)).filter fun j=>decide (j ≠ h)).map fun j=>decide (0 < ent tb h j)).any id:=by
  rw [any_id,List.any_filter]; rfl
theorem lcomes_ok {n:Nat} {tb:List (List Int)} (w:Wt' n tb) (st:Store):F__law_b_comes [tabV tb] st=.ok (.bl (comesB n tb)) st:=by
  have h8:=w.n8
  have z:=w.sz
  have hn1:-1000000<=(n:Int)/\(n:Int)<=1000000:=by omega
  have hn2:-1000000<=(n:Int) + 1/\(n:Int) + 1<=1000000:=by omega
  have hn3:((n:Int) + 1).toNat=n + 1:=by omega
  have hln:cLen st [tabV tb]=.ok (.int n) st:=by simp [tabV,z.1]
  have hc:compG (gaName 0) mTrue e__law_b_comes_1 [] (capG [none,some 0] [some (tabV tb),some (.int n),none,none,none,none,none,none]) (rangeI 0 n) st=.ok ((knInit n tb).map .bl) st:=by
    unfold knInit
    rw [rangeI0,List.map_map]
    refine compG_on _ _ (by simp) fun j hj=>⟨_,rfl,?_⟩
    have hj:=List.mem_range.mp hj
    obtain ⟨c1,c2⟩:=cell_ix z hj (Nat.le_of_lt hj) st
    show _=Res.ok (PV.bl (madeF tb j)) st
    unfold madeF
    generalize ent tb j j=x at *
    generalize tb.getD j []=r at *
    simp -implicitDefEqProofs [capG,e__law_b_comes_1,c1,c2]
  obtain ⟨a',c',d',e⟩:=kn_l1 [none,none] z (by omega) st (knInit n tb) (by simp [knInit])
  have hkl:=knownF_len n tb
  have L:=forG_search (fun k:Nat=>PV.int (k:Int)) (fun Γ=>∃ g b,Γ=[some (tabV tb),some (.int n),some (.ref st.length),a',c',d',g,b]) (lcF n tb) (.bl false) (ga:=gaName 6) (body:=b__law_b_comes_4) (w:=[]) (st:=knS st (knownF n tb)) (by simp) (xs:=List.range n) (fun h hh Γ ⟨g,b,e⟩=>by
    subst e
    have hh:=List.mem_range.mp hh
    have hb:=busy_comp z hh (knS st (knownF n tb)) [some (tabV tb),some (.int n),some (.ref st.length),a',c',d',some (.int h),b] rfl rfl
    have hr:=lrights_ok (TabLike.tab z (knS st (knownF n tb))) (by omega) hh
    rw [lr_eq z hh] at hr
    have hk:=knS_ix (st:=st) (bs:=knownF n tb) (i:=h) (by omega)
    have hrg:=range_gen (y:=(n:Int) + 1) (m:=mOp oAdd (mVar 1) (mC (.int 1))) (Γ:=[some (tabV tb),some (.int n),some (.ref st.length),a',c',d',some (.int h),b]) (S:=knS st (knownF n tb)) rfl hn2
    rw [hn3] at hrg
    have hany:=busyR_any n h tb
    rw [busy_eq w hh] at hany
    refine ⟨_,rfl,?_⟩
    show (_->∃ Γ2,_/\b__law_b_comes_4 [some (tabV tb),some (.int n),some (.ref st.length),a',c',d',some (.int h),b] _=_)/\(_->b__law_b_comes_4 [some (tabV tb),some (.int n),some (.ref st.length),a',c',d',some (.int h),b] _=_)
    unfold lcF
    generalize (((List.range (n + 1)).filter fun j=>decide (j ≠ h)).map fun j=>decide (0 < ent tb h j))=bs at *
    generalize rangeI 0 (n + 1)=rg at *
    generalize knS st (knownF n tb)=S at *
    generalize (knownF n tb).getD h false=kb at *
    generalize rightsF tb h=x at *
    rw [hany]
    generalize hB:bs.any id=bb at *
    have hex:∃ Γ2,(∃ g b,Γ2=[some (tabV tb),some (.int n),some (.ref st.length),a',c',d',g,b])/\SR.nx [some (tabV tb),some (.int n),some (.ref st.length),a',c',d',some (.int h),some (.bl bb)] S=.nx Γ2 S:=⟨_,⟨_,_,rfl⟩,rfl⟩
    by_cases q:x < 0
    · have q':¬ 0<=x:=by omega
      refine ⟨fun hp=>by simp [q'] at hp,fun _=>?_⟩
      simp -implicitDefEqProofs [b__law_b_comes_4,hrg,hb,hB,hr,q,-mRange1_eq]
    · have q':0<=x:=by omega
      cases bb <;> cases kb
      · refine ⟨fun _=>?_,fun hp=>by simp [q'] at hp⟩
        have:b__law_b_comes_4 [some (tabV tb),some (.int n),some (.ref st.length),a',c',d',some (.int h),b] S=SR.nx [some (tabV tb),some (.int n),some (.ref st.length),a',c',d',some (.int h),some (.bl false)] S:=by
          simp -implicitDefEqProofs [b__law_b_comes_4,hrg,hb,hB,hr,q,-mRange1_eq]
        rw [this]; exact hex
      · refine ⟨fun _=>?_,fun hp=>by simp [q'] at hp⟩
        have:b__law_b_comes_4 [some (tabV tb),some (.int n),some (.ref st.length),a',c',d',some (.int h),b] S=SR.nx [some (tabV tb),some (.int n),some (.ref st.length),a',c',d',some (.int h),some (.bl false)] S:=by
          simp -implicitDefEqProofs [b__law_b_comes_4,hrg,hb,hB,hr,q,-mRange1_eq]
        rw [this]; exact hex
      · refine ⟨fun hp=>by simp at hp,fun _=>?_⟩
        simp -implicitDefEqProofs [b__law_b_comes_4,hrg,hb,hB,hr,q,hk,-mRange1_eq,-oIx_r]
      · refine ⟨fun _=>?_,fun hp=>by simp [q'] at hp⟩
        have:b__law_b_comes_4 [some (tabV tb),some (.int n),some (.ref st.length),a',c',d',some (.int h),b] S=SR.nx [some (tabV tb),some (.int n),some (.ref st.length),a',c',d',some (.int h),some (.bl true)] S:=by
          simp -implicitDefEqProofs [b__law_b_comes_4,hrg,hb,hB,hr,q,hk,-mRange1_eq,-oIx_r]
        rw [this]; exact hex)
  have L:=L [some (tabV tb),some (.int n),some (.ref st.length),a',c',d',none,none] ⟨_,_,rfl⟩
  rw [<- rangeI0] at L
  rw [<- lcF_all]
  have hpre:st <+: knS st (knownF n tb):=List.prefix_append _ _
  have hfin:=fun b=>fin_blp hpre b
  have hS:st ++ [Cell.lst ((knInit n tb).map .bl)]=knS st (knInit n tb):=rfl
  have e:forG (gaName 3) b__law_b_comes_1 [] (rangeI 0 n) [some (tabV tb),some (.int n),some (.ref st.length),none,none,none,none,none] (knS st (knInit n tb))=.nx [some (tabV tb),some (.int n),some (.ref st.length),a',c',d',none,none] (knS st (knownF n tb)):=e
  cases ha:(List.range n).all (lcF n tb) with
  | true=>
    obtain ⟨Γ',⟨g,b,rfl⟩,e2⟩:=L.1 ha
    generalize knS st (knownF n tb)=S2 at *
    generalize knS st (knInit n tb)=S1 at *
    generalize (knInit n tb).map PV.bl=bv at *
    simp -implicitDefEqProofs [F__law_b_comes,callF,m__law_b_comes,lim_eq,hn1,hln,hc,hS,e,e2,hfin]
  | false=>
    have e2:=L.2 ha
    generalize knS st (knownF n tb)=S2 at *
    generalize knS st (knInit n tb)=S1 at *
    generalize (knInit n tb).map PV.bl=bv at *
    simp -implicitDefEqProofs [F__law_b_comes,callF,m__law_b_comes,lim_eq,hn1,hln,hc,hS,e,e2,hfin]
theorem need_ok {a b:List (List Int)} (h:a.length=b.length) (st:Store):F_need_as_many_houses [tabV a,tabV b] st=.ok .non st:=by
  simp [F_need_as_many_houses,callF,m_need_as_many_houses,tabV,h]
def rowLe (r1 r2:List Int):Bool:=(r1.zip r2).all fun z=>decide (z.1<=z.2)
def tabLe (t1 t2:List (List Int)):Bool:=(t1.zip t2).all fun z=>rowLe z.1 z.2
theorem row_within_ok (r1 r2:List Int) (st:Store) (hl:r1.length<=lim):F_is_row_within [rowV r1,rowV r2] st=.ok (.bl (rowLe r1 r2)) st:=by
  have hc:compG (gaTup (gaCons (gaName 0) (gaCons (gaName 1) gaNil))) mTrue e_is_row_within_1 [] (capG [none,none] [some (rowV r1),some (rowV r2)]) ((r1.zip r2).map fun z=>.tup [.int z.1,.int z.2]) st=.ok ((r1.zip r2).map fun z=>.bl (decide (z.1<=z.2))) st:=by
    refine compG_on _ _ (by simp) fun z hz=>⟨_,rfl,?_⟩
    simp [capG,e_is_row_within_1]
  unfold rowV at hc ⊢
  simp [F_is_row_within,callF,m_is_row_within,hl,zipT_map,hc,all_id,rowLe]
theorem within_ok {t1 t2:List (List Int)} (h:t1.length=t2.length) (st:Store) (hl:t1.length<=lim) (hr:∀ r ∈ t1,r.length<=lim):F_is_within [tabV t1,tabV t2] st=.ok (.bl (tabLe t1 t2)) st:=by
  have hc:compG (gaTup (gaCons (gaName 0) (gaCons (gaName 1) gaNil))) mTrue e_is_within_1 [] (capG [none,none] [some (tabV t1),some (tabV t2)]) ((t1.zip t2).map fun z=>.tup [rowV z.1,rowV z.2]) st=.ok ((t1.zip t2).map fun z=>.bl (rowLe z.1 z.2)) st:=by
    refine compG_on _ _ (by simp) fun z hz=>⟨_,rfl,?_⟩
    have:=row_within_ok z.1 z.2 st (hr _ (List.of_mem_zip hz).1)
    simp [capG,e_is_within_1,this]
  have hn:=need_ok h st
  unfold tabV at hc hn ⊢
  simp [F_is_within,callF,m_is_within,hl,zipT_map,hc,all_id,tabLe,hn]
def poolV (pl:List Nat):PV:=.tup (pl.map intV)
structure PlOk (n:Nat) (pl:List Nat):Prop where
  ne:pl ≠ []
  lt:∀ h ∈ pl,h < n
  inc:pl.Pairwise (· < ·)
  len:pl.length<=8
theorem houses_okT {n:Nat} {tb:List (List Int)} (hn:tb.length=n) {pl:List Nat} (p:PlOk n pl) (st:Store):F_are_houses [tabV tb,poolV pl] st=.ok (.bl true) st:=by
  have hc:compG (gaName 0) mTrue e_are_houses_1 [] (capG [none,some 0] [some (tabV tb),some (poolV pl)]) (pl.map intV) st=.ok ((pl.map fun _=>true).map .bl) st:=by
    rw [List.map_map]
    refine compG_on _ _ (by simp) fun h hh=>⟨_,rfl,?_⟩
    have:=is_house_yes (V:=tabV tb) (n:=n) (i:=h) (st:=st) (by simp [tabV,hn]) (p.lt h hh)
    show _=Res.ok (PV.bl true) st
    simp [capG,e_are_houses_1,intV,this]
  have hl:=p.len
  have hl':(pl.map intV).length<=1000000:=by rw [List.length_map]; omega
  have ha:(pl.map fun _=>true).all id=true:=by simp
  unfold poolV at *
  generalize (pl.map fun _=>true)=bs at *
  generalize pl.map intV=pv at *
  simp -implicitDefEqProofs [F_are_houses,callF,m_are_houses,hl',lim_eq,hc,ha]
theorem rising_okT {n:Nat} {pl:List Nat} (p:PlOk n pl) (st:Store):F_is_rising [poolV pl] st=.ok (.bl true) st:=by
  have hsl:cut (pl.map intV) (some 1) none=(pl.drop 1).map intV:=by
    rw [cut_map]
    have:=cut_back pl 1
    exact congrArg _ this
  have hc:compG (gaTup (gaCons (gaName 0) (gaCons (gaName 1) gaNil))) mTrue e_is_rising_1 [] (capG [none,none] [some (poolV pl)]) ((pl.zip (pl.drop 1)).map fun z=>.tup [intV z.1,intV z.2]) st=.ok (((pl.zip (pl.drop 1)).map fun z=>decide (z.1 < z.2)).map .bl) st:=by
    rw [List.map_map]
    refine compG_on _ _ (by simp) fun z hz=>⟨_,rfl,?_⟩
    show _=Res.ok (PV.bl (decide (z.1 < z.2))) st
    simp [capG,e_is_rising_1,intV]
  have ha:((pl.zip (pl.drop 1)).map fun z=>decide (z.1 < z.2)).all id=true:=by
    rw [all_id,List.all_eq_true]
    intro z hz
    obtain ⟨k,hk,e⟩:=List.mem_iff_getElem.mp hz
    have e':=List.getElem?_eq_some_iff.mpr ⟨hk,e⟩
    rw [List.getElem?_zip_eq_some] at e'
    obtain ⟨e1,e2⟩:=e'
    rw [List.getElem?_drop,Nat.add_comm] at e2
    obtain ⟨k1,f1⟩:=List.getElem?_eq_some_iff.mp e1
    obtain ⟨k2,f2⟩:=List.getElem?_eq_some_iff.mp e2
    have:=List.pairwise_iff_getElem.mp p.inc k (k + 1) k1 k2 (by omega)
    rw [f1,f2] at this
    simp [this]
  have hl:=p.len
  have hl':pl.length<=1000000:=by omega
  unfold poolV at *
  generalize ((pl.zip (pl.drop 1)).map fun z=>decide (z.1 < z.2))=bs at *
  generalize pl.drop 1=ds at *
  simp -implicitDefEqProofs [F_is_rising,callF,m_is_rising,hsl,hl',lim_eq,zipT_map,hc,ha]
theorem need_pool_ok {n:Nat} {tb:List (List Int)} (w:Wt' n tb) (hc:comesB n tb=true) {pl:List Nat} (p:PlOk n pl) (st:Store):F_need_pool [tabV tb,poolV pl] st=.ok .non st:=by
  have h1:=does_ok w st
  rw [hc] at h1
  have h2:F_need_comes_about [tabV tb] st=.ok .non st:=by
    generalize tabV tb=T at *
    simp -implicitDefEqProofs [F_need_comes_about,callF,m_need_comes_about,h1]
  have h3:=houses_okT w.len p st
  have h4:=rising_okT p st
  have h5:F_is_pool [tabV tb,poolV pl] st=.ok (.bl true) st:=by
    have hp:0 < (pl.map intV).length:=by rw [List.length_map]; exact List.length_pos_iff.mpr p.ne
    have hp2:¬ (((pl.map intV).length:Int)=0):=by omega
    have hp3:¬ (pl.map intV=[]):=fun q=>by rw [q] at hp; simp at hp
    generalize tabV tb=T at *
    unfold poolV at *
    generalize pl.map intV=pv at *
    simp -implicitDefEqProofs [F_is_pool,callF,m_is_pool,isI,tyN,hp2,hp3,h3,h4]
  generalize tabV tb=T at *
  generalize poolV pl=PV' at *
  simp -implicitDefEqProofs [F_need_pool,callF,m_need_pool,h2,h5]
def sameF (t1 t2:List (List Int)) (pl:List Nat):Bool:=pl.all fun h=>decide (t2.getD h []=t1.getD h [])
theorem row_eq {r1 r2:List Int} (st:Store):oEq st (rowV r1) (rowV r2)=.ok (.bl (decide (r1=r2))) st:=by
  have g:∀ r:List Int,good dep (rowV r)=true:=fun r=>by simp [good,dep,rowV]
  have hd:∀ r,der st (rowV r)=rowV r:=fun r=>rfl
  have hp:peq (rowV r1) (rowV r2)=decide (r1=r2):=by
    unfold rowV
    rw [peq]
    induction r1 generalizing r2 with
    | nil=>cases r2 <;> simp [peqL]
    | cons x xs ih=>
      cases r2 with
      | nil=>simp [peqL]
      | cons y ys=>
        rw [List.map_cons,List.map_cons,peqL,ih]
        rw [Bool.eq_iff_iff]
        simp [peq]
  unfold oEq
  rw [hd,hd]
  simp [g,hp]
def worldF (n m:Nat) (t1:List (List Int)) (pl:List Nat) (t2:List (List Int)):Bool:=comesB m t2 && decide (m=n) && tabLe t1 t2 && sameF t1 t2 pl
theorem is_world_ok {n m:Nat} {t1 t2:List (List Int)} (w1:Wt' n t1) (w2:Wt' m t2) (hc:comesB n t1=true) {pl:List Nat} (p:PlOk n pl) (st:Store):F_is_world [tabV t1,poolV pl,tabV t2] st=.ok (.bl (worldF n m t1 pl t2)) st:=by
  have h8:=w1.n8
  have h1:=need_pool_ok w1 hc p st
  have h2:=does_ok w2 st
  have hl1:cLen st [tabV t1]=.ok (.int n) st:=by simp [tabV,w1.len]
  have hl2:cLen st [tabV t2]=.ok (.int m) st:=by simp [tabV,w2.len]
  unfold worldF
  cases h3:comesB m t2 with
  | false=>
    rw [h3] at h2
    generalize tabV t1=T1 at *
    generalize tabV t2=T2 at *
    generalize poolV pl=PV' at *
    simp -implicitDefEqProofs [F_is_world,callF,m_is_world,h1,h2]
  | true=>
    rw [h3] at h2
    by_cases hm:m=n
    · subst hm
      have hw:=within_ok (t1:=t1) (t2:=t2) (by rw [w1.len,w2.len]) st (by rw [w1.len,lim_eq]; omega) (fun r hr=>by rw [w1.row r hr,lim_eq]; omega)
      have hcc:compG (gaName 0) mTrue e_is_world_1 [] (capG [none,some 2,some 0] [some (tabV t1),some (poolV pl),some (tabV t2)]) (pl.map intV) st=.ok ((pl.map fun h=>decide (t2.getD h []=t1.getD h [])).map .bl) st:=by
        rw [List.map_map]
        refine compG_on _ _ (by simp) fun h hh=>⟨_,rfl,?_⟩
        have c1:=(cell_ix w1.sz (p.lt h hh) (Nat.zero_le _) st).1
        have c2:=(cell_ix w2.sz (p.lt h hh) (Nat.zero_le _) st).1
        have he:=row_eq (r1:=t2.getD h []) (r2:=t1.getD h []) st
        show _=Res.ok (PV.bl (decide (t2.getD h []=t1.getD h []))) st
        generalize t1.getD h []=r1 at *
        generalize t2.getD h []=r2 at *
        simp -implicitDefEqProofs [capG,e_is_world_1,intV,c1,c2,he]
      have ha:sameF t1 t2 pl=(pl.map fun h=>decide (t2.getD h []=t1.getD h [])).all id:=(all_id _ _).symm
      have hl:=p.len
      have hl':(pl.map intV).length<=1000000:=by rw [List.length_map]; omega
      rw [ha]
      generalize (pl.map fun h=>decide (t2.getD h []=t1.getD h []))=bs at *
      generalize tabV t1=T1 at *
      generalize tabV t2=T2 at *
      unfold poolV at *
      generalize pl.map intV=pv at *
      cases htl:tabLe t1 t2 with
      | true=>
        rw [htl] at hw
        simp -implicitDefEqProofs [F_is_world,callF,m_is_world,h1,h2,hl1,hl2,hw,hl',lim_eq,hcc]
      | false=>
        rw [htl] at hw
        simp -implicitDefEqProofs [F_is_world,callF,m_is_world,h1,h2,hl1,hl2,hw]
    · have hm':¬ ((m:Int)=n):=by omega
      generalize tabV t1=T1 at *
      generalize tabV t2=T2 at *
      generalize poolV pl=PV' at *
      simp -implicitDefEqProofs [F_is_world,callF,m_is_world,h1,h2,hl1,hl2,hm,hm']
def zRow (n:Nat):List Int:=List.replicate (n + 1) 0
theorem zTab_wt {n:Nat} (h1:1<=n) (h8:n<=8):Wt' n (List.replicate n (zRow n)):=by
  refine ⟨by simp,fun r hr=>?_,fun r hr x hx=>?_,h1,h8⟩
  · rw [List.eq_of_mem_replicate hr]; simp [zRow]
  · rw [List.eq_of_mem_replicate hr] at hx
    rw [List.eq_of_mem_replicate hx]
    exact Int.le_refl _
def putT (tb:List (List Int)) (i j:Nat) (x:Int):List (List Int):=tb.set i ((tb.getD i []).set j x)
theorem ent_put {n i j:Nat} {tb:List (List Int)} (z:Sz n tb) (hi:i < n) (hj:j<=n) (x:Int) (a b:Nat):ent (putT tb i j x) a b=if a=i/\b=j then x else ent tb a b:=by
  unfold ent putT
  have hl:=(z.row hi).2
  by_cases ha:a=i
  · subst ha
    rw [show (tb.set a ((tb.getD a []).set j x)).getD a []=(tb.getD a []).set j x by rw [List.getD,List.getElem?_set_self (by rw [z.1]; exact hi)]; rfl]
    by_cases hb:b=j
    · subst hb
      rw [if_pos ⟨rfl,rfl⟩,List.getD,List.getElem?_set_self (by omega)]; rfl
    · rw [if_neg (fun q=>hb q.2),List.getD,List.getElem?_set_ne (fun q=>hb q.symm)]; rfl
  · rw [if_neg (fun q=>ha q.1)]
    rw [show (tb.set i ((tb.getD i []).set j x)).getD a []=tb.getD a [] by rw [List.getD,List.getElem?_set_ne (fun q=>ha q.symm)]; rfl]
theorem upto_delta (n i:Nat) (k:Int):upto n (fun o=>if o=i then k else 0)=if i < n then k else 0:=by
  induction n with
  | zero=>rfl
  | succ n ih=>
    rw [upto_succ,ih]
    by_cases e:n=i
    · subst e; simp
    · rw [if_neg e]
      by_cases h:i < n
      · rw [if_pos h,if_pos (by omega)]; omega
      · rw [if_neg h,if_neg (by omega)]; omega
theorem putT_sz {n i j:Nat} {tb:List (List Int)} (z:Sz n tb) (hi:i < n) (x:Int):Sz n (putT tb i j x):=by
  unfold putT
  refine ⟨by rw [List.length_set]; exact z.1,fun r hr=>?_⟩
  rcases List.mem_or_eq_of_mem_set hr with hr | rfl
  · exact z.2 r hr
  · rw [List.length_set]; exact (z.row hi).2
theorem rights_put {n i j:Nat} {tb:List (List Int)} (z:Sz n tb) (hi:i < n) (hj:j<=n) (k:Int) {h:Nat} (hh:h < n) :
    rightsF (putT tb i j (ent tb i j + k)) h=rightsF tb h + (if h=j then k else 0) - (if h=i then k else 0) + (if h=i/\j=i then k else 0):=by
  have z':=putT_sz (j:=j) z hi (ent tb i j + k)
  have he:∀ a b,ent (putT tb i j (ent tb i j + k)) a b=ent tb a b + if a=i/\b=j then k else 0:=fun a b=>by
    rw [ent_put z hi hj]
    split
    · rename_i q; rw [q.1,q.2]
    · omega
  rw [rightsF_eq z' hh,rightsF_eq z hh]
  have c1:upto n (fun o=>ent (putT tb i j (ent tb i j + k)) o h)=upto n (fun o=>ent tb o h) + if h=j then k else 0:=by
    rw [upto_congr (g:=fun o=>ent tb o h + if o=i then (if h=j then k else 0) else 0) fun o _=>by
      rw [he]
      by_cases q1:o=i <;> by_cases q2:h=j <;> simp [q1,q2],upto_add,upto_delta,if_pos hi]
  have c2:upto n (fun b=>ent (putT tb i j (ent tb i j + k)) h b) + ent (putT tb i j (ent tb i j + k)) h n=upto n (fun b=>ent tb h b) + ent tb h n + if h=i then k else 0:=by
    rw [<- upto_succ,<- upto_succ,upto_congr (g:=fun b=>ent tb h b + if b=j then (if h=i then k else 0) else 0) fun b _=>by
      rw [he]
      by_cases q1:h=i <;> by_cases q2:b=j <;> simp [q1,q2],upto_add,upto_delta,if_pos (by omega)]
  rw [c1,c2,he]
  by_cases q1:h=i <;> by_cases q2:j=i <;> by_cases q3:h=j <;> simp [q1,q2,q3] <;> omega
structure Ca (n:Nat) (tb:List (List Int)):Prop where
  nn:∀ h,h < n->0<=rightsF tb h
  bz:∀ h,h < n->busyF tb h=true->Rc n tb h
theorem Ca.comes {n:Nat} {tb:List (List Int)} (c:Ca n tb):comesB n tb=true:=by
  unfold comesB reachF
  rw [Bool.and_eq_true,List.all_eq_true,List.all_eq_true]
  refine ⟨fun h hh=>by simp [c.nn h (List.mem_range.mp hh)],fun h hh=>?_⟩
  have hh:=List.mem_range.mp hh
  cases hb:busyF tb h with
  | false=>simp
  | true=>rw [(known_rc n tb hh).mpr (c.bz h hh hb)]; rfl
theorem Rc.mono {n:Nat} {t1 t2:List (List Int)} (h:∀ a b,a < n->b < n->ent t1 a b<=ent t2 a b) {g:Nat} (r:Rc n t1 g):Rc n t2 g:=by
  induction r with
  | @made k hl hm=>
    refine .made hl ?_
    unfold madeF at *
    have:=h k k hl hl
    simp at hm
    simp; omega
  | @lent o k r hl he ih=>
    have:=h o k r.lt hl
    exact .lent ih hl (by omega)
theorem busy_iff {n:Nat} {tb:List (List Int)} (w:Wt' n tb) {h:Nat} (hh:h < n):busyF tb h=true <-> ∃ j,j<=n/\j ≠ h/\0 < ent tb h j:=by
  rw [<- busy_eq w hh]
  unfold busyR
  rw [List.any_eq_true]
  constructor
  · rintro ⟨j,hj,q⟩
    simp at q
    exact ⟨j,by have:=List.mem_range.mp hj; omega,q.1,q.2⟩
  · rintro ⟨j,hj,q1,q2⟩
    exact ⟨j,List.mem_range.mpr (by omega),by simp [q1,q2]⟩
theorem Ca.rc_of {n:Nat} {tb:List (List Int)} (w:Wt' n tb) (c:Ca n tb) {i:Nat} (hi:i < n) (hr:1<=rightsF tb i):Rc n tb i:=by
  rw [rightsF_eq w.sz hi] at hr
  have hrow:ent tb i i<=upto n (fun j=>ent tb i j):=upto_le (fun j hj=>w.ent_nn hi (Nat.le_of_lt hj)) hi
  have hnn:=w.ent_nn hi (Nat.le_refl n)
  have:∃ o,o < n/\0 < ent tb o i:=by
    refine Classical.byContradiction fun q=>?_
    have:upto n (fun o=>ent tb o i)=upto n fun _=>0:=upto_congr fun o ho=>by
      have h1:=w.ent_nn ho (Nat.le_of_lt hi)
      have h2:¬ 0 < ent tb o i:=fun z=>q ⟨o,ho,z⟩
      omega
    rw [upto_zero] at this
    omega
  obtain ⟨o,ho,he⟩:=this
  by_cases e:o=i
  · subst e
    exact .made hi (by unfold madeF; simp [he])
  · exact .lent (c.bz o ho ((busy_iff w ho).mpr ⟨i,Nat.le_of_lt hi,fun z=>e z.symm,he⟩)) hi he
theorem Ca.make {n i:Nat} {tb:List (List Int)} (w:Wt' n tb) (c:Ca n tb) (hi:i < n) {k:Int} (hk:0<=k) (w':Wt' n (putT tb i i (ent tb i i + k))):Ca n (putT tb i i (ent tb i i + k)):=by
  have hle:∀ a b,ent tb a b<=ent (putT tb i i (ent tb i i + k)) a b:=fun a b=>by
    rw [ent_put w.sz hi (Nat.le_of_lt hi)]
    split
    · rename_i q; rw [q.1,q.2]; omega
    · omega
  refine ⟨fun h hh=>?_,fun h hh hb=>?_⟩
  · rw [rights_put w.sz hi (Nat.le_of_lt hi) k hh]
    have:=c.nn h hh
    by_cases q:h=i <;> simp [q] at * <;> omega
  · obtain ⟨j,hj,q1,q2⟩:=(busy_iff w' hh).mp hb
    rw [ent_put w.sz hi (Nat.le_of_lt hi)] at q2
    rw [if_neg (fun q=>q1 (by omega))] at q2
    exact (c.bz h hh ((busy_iff w hh).mpr ⟨j,hj,q1,q2⟩)).mono fun a b _ _=>hle a b
theorem Ca.give {n i j:Nat} {tb:List (List Int)} (w:Wt' n tb) (c:Ca n tb) (hi:i < n) (hj:j<=n) (hne:j ≠ i) {k:Int} (hk:0<=k) (hr:k<=rightsF tb i) (hr1:1<=rightsF tb i) (w':Wt' n (putT tb i j (ent tb i j + k))):Ca n (putT tb i j (ent tb i j + k)):=by
  have hle:∀ a b,ent tb a b<=ent (putT tb i j (ent tb i j + k)) a b:=fun a b=>by
    rw [ent_put w.sz hi hj]
    split
    · rename_i q; rw [q.1,q.2]; omega
    · omega
  refine ⟨fun h hh=>?_,fun h hh hb=>?_⟩
  · rw [rights_put w.sz hi hj k hh]
    have:=c.nn h hh
    by_cases q:h=i
    · subst q
      rw [if_neg (fun z=>hne z.symm),if_pos rfl,if_neg (fun z=>hne z.2)]
      omega
    · by_cases q2:h=j
      · rw [if_pos q2,if_neg q,if_neg (fun z=>q z.1)]; omega
      · rw [if_neg q2,if_neg q,if_neg (fun z=>q z.1)]; omega
  · by_cases q:h=i
    · subst q
      exact (c.rc_of w hi hr1).mono fun a b _ _=>hle a b
    · obtain ⟨b,hb1,q1,q2⟩:=(busy_iff w' hh).mp hb
      rw [ent_put w.sz hi hj,if_neg (fun z=>q z.1)] at q2
      exact (c.bz h hh ((busy_iff w hh).mpr ⟨b,hb1,q1,q2⟩)).mono fun a b _ _=>hle a b
theorem Ca.zero {n:Nat} (h1:1<=n) (h8:n<=8) (w:Wt' n (List.replicate n (zRow n))):Ca n (List.replicate n (zRow n)):=by
  have he:∀ a b,a < n->b<=n->ent (List.replicate n (zRow n)) a b=0:=fun a b ha hb=>by
    unfold ent zRow
    rw [show (List.replicate n (List.replicate (n + 1) (0:Int))).getD a []=List.replicate (n + 1) 0 by rw [List.getD,List.getElem?_replicate,if_pos ha]; rfl]
    rw [List.getD,List.getElem?_replicate,if_pos (by omega)]; rfl
  refine ⟨fun h hh=>?_,fun h hh hb=>?_⟩
  · rw [rightsF_eq w.sz hh,upto_congr (g:=fun _=>0) fun o ho=>he o h ho (Nat.le_of_lt hh),upto_congr (f:=fun j=>ent (List.replicate n (zRow n)) h j) (g:=fun _=>0) fun o ho=>he h o hh (Nat.le_of_lt ho),upto_zero,he h n hh (Nat.le_refl n),he h h hh (Nat.le_of_lt hh)]
    omega
  · obtain ⟨j,hj,_,q⟩:=(busy_iff w hh).mp hb
    rw [he h j hh hj] at q
    omega
def stockF (n:Nat) (tb:List (List Int)):Int:=upto n (fun o=>ent tb o o) - upto n (fun o=>ent tb o n)
theorem stock_ok {n:Nat} {tb:List (List Int)} (z:Sz n tb) (hn:n<=100) (st:Store):F_stock [tabV tb] st=.ok (.int (stockF n tb)) st:=by
  have hc1:compG (gaTup (gaCons (gaName 0) (gaCons (gaName 1) gaNil))) mTrue e_stock_1 [] (capG [none,none] [some (tabV tb),none,none]) (tb.zipIdx.map fun z=>.tup [.int (z.2:Nat),rowV z.1]) st=.ok (tb.zipIdx.map fun z=>.int (z.1.getD z.2 0)) st:=by
    refine compG_on _ _ (by simp) fun y hy=>⟨_,rfl,?_⟩
    have h2:=List.snd_lt_of_mem_zipIdx hy
    have h1:=z.2 _ (List.fst_mem_of_mem_zipIdx hy)
    have e:=atI_get (getD_some (show y.2 < y.1.length by rw [h1]; rw [z.1] at h2; omega) 0)
    simp [capG,e_stock_1,rowV,atI_map,e]
  have hc2:∀ a,compG (gaName 0) mTrue e_stock_2 [] (capG [none] [some (tabV tb),a,none]) (tb.map rowV) st=.ok (tb.map fun r=>.int (r.getD n 0)) st:=fun a=>by
    refine compG_on _ _ (by simp) fun r hr=>⟨_,rfl,?_⟩
    have hl:=z.2 r hr
    have e0:=getD_some (show n < r.length by omega) 0
    have e:atI r (-1)=some (r.getD n 0):=by
      unfold atI ixN
      rw [if_neg (by omega),if_pos (by omega),hl,show ((-1:Int) + ((n + 1:Nat):Int)).toNat=n by omega]
      exact e0
    simp [capG,e_stock_2,rowV,atI_map,e]
  have s1:(tb.zipIdx.map fun z=>z.1.getD z.2 0).sum=upto n fun o=>ent tb o o:=by
    rw [zipIdx_map tb [] fun z=>z.1.getD z.2 0,z.1]; rfl
  have s2:(tb.map fun r=>r.getD n 0).sum=upto n fun o=>ent tb o n:=by
    rw [map_getD tb [] fun r=>r.getD n 0,z.1]; rfl
  have hl:tb.length<=1000000:=by rw [z.1]; omega
  unfold stockF
  rw [<- s1,<- s2]
  unfold tabV at hc1 hc2 ⊢
  simp [F_stock,callF,m_stock,hc1,hc2,hl,lim_eq,enumT_map]
def poolS (tb:List (List Int)) (pl:List Nat):Int:=(pl.map (rightsF tb)).sum
theorem in_pool (pl:List Nat) (h:Nat) (b:Bool) (st:Store):oIn b st (.int h) (poolV pl)=.ok (.bl (decide (h ∈ pl) != b)) st:=by
  have e:poolV pl=.tup ((pl.map fun k:Nat=>(k:Int)).map .int):=by unfold poolV; rw [List.map_map]; rfl
  have hd:der st (.int h)=.int h:=rfl
  have g1:good dep (.int h)=true:=rfl
  have g2:((pl.map fun k:Nat=>(k:Int)).map PV.int).all (good dep)=true:=by simp [good,dep]
  have hm:decide ((h:Int) ∈ pl.map fun k:Nat=>(k:Int))=decide (h ∈ pl):=by
    rw [Bool.eq_iff_iff,decide_eq_true_iff,decide_eq_true_iff,List.mem_map]
    constructor
    · rintro ⟨k,hk,q⟩
      rw [<- show k=h by omega]; exact hk
    · exact fun q=>⟨h,q,rfl⟩
  have hq:seqOf st (poolV pl)=some ((pl.map fun k:Nat=>(k:Int)).map .int):=by rw [e]; rfl
  unfold oIn
  rw [hq,hd]
  simp only [g1,g2,and_self,if_true,in_ints,hm]
theorem pool_comp {n:Nat} {tb:List (List Int)} (w:Wt' n tb) {pl:List Nat} (p:PlOk n pl) (me:ME) (Γ0:Gam) (st:Store) (h:∀ i,i < n->me (Γ0.set 0 (some (.int i))) st=.ok (.int (rightsF tb i)) st):compG (gaName 0) mTrue me [] Γ0 (pl.map intV) st=.ok ((pl.map (rightsF tb)).map .int) st:=by
  rw [List.map_map]
  exact compG_on _ _ (by simp) fun i hi=>⟨_,rfl,h i (p.lt i hi)⟩
theorem rights_of_ok {n:Nat} {tb:List (List Int)} (w:Wt' n tb) {pl:List Nat} (p:PlOk n pl) (st:Store):F_rights_of_pool [tabV tb,poolV pl] st=.ok (.int (poolS tb pl)) st:=by
  have h8:=w.n8
  have hc:=pool_comp w p e_rights_of_pool_1 (capG [none,some 0] [some (tabV tb),some (poolV pl)]) st fun i hi=>by
    have:=rights_ok w.sz (by omega) hi st
    generalize tabV tb=T at *
    generalize poolV pl=P at *
    simp -implicitDefEqProofs [capG,e_rights_of_pool_1,this]
  have hl:=p.len
  have hl':(pl.map intV).length<=1000000:=by rw [List.length_map]; omega
  have s1:srcOf st (poolV pl)=some (pl.map intV,[]):=rfl
  unfold poolS
  generalize pl.map (rightsF tb)=rs at *
  generalize tabV tb=T at *
  generalize pl.map intV=pv at *
  generalize poolV pl=P at *
  simp -implicitDefEqProofs [F_rights_of_pool,callF,m_rights_of_pool,s1,hl',lim_eq,hc]
theorem Wt'.set0 {n i j:Nat} {tb:List (List Int)} (w:Wt' n tb) (hi:i < n) {x:Int} (hx:0<=x):Wt' n (tb.set i ((tb.getD i []).set j x)):=by
  have hr:=(w.sz.row hi).1
  have hm:=List.mem_of_getElem? hr
  generalize tb.getD i []=r at *
  refine ⟨by rw [List.length_set]; exact w.len,fun q hq=>?_,fun q hq y hy=>?_,w.n1,w.n8⟩
  · rcases List.mem_or_eq_of_mem_set hq with hq | rfl
    · exact w.row q hq
    · rw [List.length_set]; exact w.row r hm
  · rcases List.mem_or_eq_of_mem_set hq with hq | rfl
    · exact w.nn q hq y hy
    · rcases List.mem_or_eq_of_mem_set hy with hy | rfl
      · exact w.nn r hm y hy
      · exact hx
theorem set_cut {α:Type} (xs:List α) (i:Nat) (x:α) (h:i < xs.length):xs.take i ++ [x] ++ xs.drop (i + 1)=xs.set i x:=by
  rw [List.set_eq_take_append_cons_drop,if_pos h,List.append_assoc]; rfl
theorem raised_ok {n i j:Nat} {tb:List (List Int)} (z:Sz n tb) (hn:n<=100) (hi:i < n) (hj:j<=n) (k:Int) (st:Store):F_raised [tabV tb,.int i,.int j,.int k] st=.ok (tabV (putT tb i j (ent tb i j + k))) st:=by
  have c0:=cell_ix z hi hj st
  have hrl:=(z.row hi).2
  have g1:rowV ((tb.getD i []).set j (ent tb i j + k))=.tup (((tb.getD i []).take j).map .int ++ [.int (ent tb i j + k)] ++ ((tb.getD i []).drop (j + 1)).map .int):=by
    unfold rowV
    rw [<- set_cut _ _ _ (by omega),List.map_append,List.map_append]; rfl
  have g2:tabV (putT tb i j (ent tb i j + k))=.tup ((tb.take i).map rowV ++ [rowV ((tb.getD i []).set j (ent tb i j + k))] ++ (tb.drop (i + 1)).map rowV):=by
    unfold tabV putT
    rw [<- set_cut _ _ _ (by rw [z.1]; exact hi),List.map_append,List.map_append]; rfl
  have c3:cut ((tb.getD i []).map PV.int) none (some (j:Int))=((tb.getD i []).take j).map .int:=by rw [cut_map,cut_front]
  have c4:cut ((tb.getD i []).map PV.int) (some ((j:Int) + 1)) none=((tb.getD i []).drop (j + 1)).map .int:=by rw [cut_map]; exact congrArg _ (cut_back _ (j + 1))
  have c5:cut (tb.map rowV) none (some (i:Int))=(tb.take i).map rowV:=by rw [cut_map,cut_front]
  have c6:cut (tb.map rowV) (some ((i:Int) + 1)) none=(tb.drop (i + 1)).map rowV:=by rw [cut_map]; exact congrArg _ (cut_back _ (i + 1))
  have l3:(((tb.getD i []).take j).map PV.int).length=j:=by rw [List.length_map,List.length_take,hrl]; omega
  have l4:(((tb.getD i []).drop (j + 1)).map PV.int).length=n - j:=by rw [List.length_map,List.length_drop,hrl]; omega
  have l5:((tb.take i).map rowV).length=i:=by rw [List.length_map,List.length_take,z.1]; omega
  have l6:((tb.drop (i + 1)).map rowV).length=n - (i + 1):=by rw [List.length_map,List.length_drop,z.1]
  have b1:j + 1<=1000000:=by omega
  have b2:j + 1 + (n - j)<=1000000:=by omega
  have b3:i + 1<=1000000:=by omega
  have b4:i + 1 + (n - (i + 1))<=1000000:=by omega
  have hf:fin st (tabV (putT tb i j (ent tb i j + k))) st=.ok (tabV (putT tb i j (ent tb i j + k))) st:=fin_good (by simp [good,tabV,rowV])
  obtain ⟨c1,c2⟩:=c0
  have q1:oSl st (rowV (tb.getD i [])) none (some (j:Int))=.ok (.tup (((tb.getD i []).take j).map .int)) st:=by unfold rowV; rw [oSl_tup,c3]
  have q2:oSl st (rowV (tb.getD i [])) (some ((j:Int) + 1)) none=.ok (.tup (((tb.getD i []).drop (j + 1)).map .int)) st:=by unfold rowV; rw [oSl_tup,c4]
  have q3:oSl st (tabV tb) none (some (i:Int))=.ok (.tup ((tb.take i).map rowV)) st:=by unfold tabV; rw [oSl_tup,c5]
  have q4:oSl st (tabV tb) (some ((i:Int) + 1)) none=.ok (.tup ((tb.drop (i + 1)).map rowV)) st:=by unfold tabV; rw [oSl_tup,c6]
  rw [g2] at hf ⊢
  rw [g1] at hf ⊢
  generalize ent tb i j=x at *
  generalize ((tb.getD i []).take j).map PV.int=v3 at *
  generalize ((tb.getD i []).drop (j + 1)).map PV.int=v4 at *
  generalize (tb.take i).map rowV=v5 at *
  generalize (tb.drop (i + 1)).map rowV=v6 at *
  generalize rowV (tb.getD i [])=rv at *
  generalize tabV tb=T at *
  simp -implicitDefEqProofs at hf
  simp -implicitDefEqProofs [F_raised,callF,m_raised,c1,c2,q1,q2,q3,q4,lim_eq,l3,l4,l5,l6,b1,b2,b3,b4,hf]
theorem putT_same {n i j:Nat} {tb:List (List Int)} (z:Sz n tb) (hi:i < n) (hj:j<=n):putT tb i j (ent tb i j + 0)=tb:=by
  refine tab_ext (putT_sz z hi _) z fun a b _ _=>?_
  rw [ent_put z hi hj]
  split
  · rename_i q; rw [q.1,q.2]; omega
  · rfl
theorem put_row {n i j:Nat} {tb:List (List Int)} (z:Sz n tb) (hi:i < n) (x:Int) {h:Nat} (hne:h ≠ i):(putT tb i j x).getD h []=tb.getD h []:=by
  unfold putT
  rw [List.getD,List.getElem?_set_ne (fun q=>hne q.symm)]; rfl
theorem putT_wt {n i j:Nat} {tb:List (List Int)} (w:Wt' n tb) (hi:i < n) {x:Int} (hx:0<=x):Wt' n (putT tb i j x):=w.set0 hi hx
structure Pw (n:Nat) (tb:List (List Int)) (pl:List Nat) (m:Nat) (W:List (List Int)):Prop where
  wt:Wt' n W
  ca:Ca n W
  le:∀ a b,a < n->b<=n->ent tb a b<=ent W a b
  row:∀ h ∈ pl,W.getD h []=tb.getD h []
  ri:∀ h,h < n->rightsF W h=if h < m/\h ∉ pl then 0 else rightsF tb h
theorem Pw.zero {n:Nat} {tb:List (List Int)} {pl:List Nat} (w:Wt' n tb) (c:Ca n tb):Pw n tb pl 0 tb:=⟨w,c,fun _ _ _ _=>Int.le_refl _,fun _ _=>rfl,fun h hh=>by rw [if_neg (fun q=>by omega)]⟩
theorem Pw.skip {n m:Nat} {tb W:List (List Int)} {pl:List Nat} (p:Pw n tb pl m W) (hm:m ∈ pl):Pw n tb pl (m + 1) W:=⟨p.wt,p.ca,p.le,p.row,fun h hh=>by
  rw [p.ri h hh]
  by_cases q:h=m
  · subst q
    rw [if_neg (fun z=>z.2 hm),if_neg (fun z=>z.2 hm)]
  · by_cases q2:h < m/\h ∉ pl
    · rw [if_pos q2,if_pos ⟨by omega,q2.2⟩]
    · rw [if_neg q2,if_neg (fun z=>q2 ⟨by omega,z.2⟩)]⟩
theorem Ca.spend {n i j:Nat} {tb:List (List Int)} (w:Wt' n tb) (c:Ca n tb) (hi:i < n) (hj:j<=n) (hne:j ≠ i) {k:Int} (hk:0<=k) (hr:k<=rightsF tb i):Ca n (putT tb i j (ent tb i j + k)):=by
  by_cases q:k=0
  · subst q
    rw [putT_same w.sz hi hj]; exact c
  · exact c.give w hi hj hne hk hr (by omega) (putT_wt w hi (by have:=w.ent_nn hi hj; omega))
theorem Pw.step {n m:Nat} {tb W:List (List Int)} {pl:List Nat} (w:Wt' n tb) (c:Ca n tb) (p:Pw n tb pl m W) (hmn:m < n) (hm:m ∉ pl):Pw n tb pl (m + 1) (putT W m n (ent W m n + rightsF tb m)):=by
  have hnn:=c.nn m hmn
  have hrm:rightsF W m=rightsF tb m:=by rw [p.ri m hmn,if_neg (fun q=>by omega)]
  have he:=p.wt.ent_nn hmn (Nat.le_refl n)
  have w':Wt' n (putT W m n (ent W m n + rightsF tb m)):=putT_wt p.wt hmn (by omega)
  refine ⟨w',p.ca.spend p.wt hmn (Nat.le_refl n) (by omega) hnn (by rw [hrm]; exact Int.le_refl _),fun a b ha hb=>?_,fun h hh=>?_,fun h hh=>?_⟩
  · rw [ent_put p.wt.sz hmn (Nat.le_refl n)]
    have:=p.le a b ha hb
    split
    · rename_i q; rw [q.1,q.2] at this ⊢; omega
    · exact this
  · rw [put_row p.wt.sz hmn _ (fun q=>hm (q ▸ hh))]; exact p.row h hh
  · rw [rights_put p.wt.sz hmn (Nat.le_refl n) _ hh,if_neg (by omega),p.ri h hh,if_neg (show ¬ (h=m/\n=m) from fun q=>by omega)]
    by_cases q:h=m
    · subst q
      rw [if_pos rfl,if_neg (fun z=>by omega),if_pos ⟨by omega,hm⟩]; omega
    · rw [if_neg q]
      by_cases q2:h < m/\h ∉ pl
      · rw [if_pos q2,if_pos ⟨by omega,q2.2⟩]; omega
      · rw [if_neg q2,if_neg (fun z=>q2 ⟨by omega,z.2⟩)]; omega
theorem poorest_ok {n:Nat} {tb:List (List Int)} (w:Wt' n tb) (c:Ca n tb) {pl:List Nat} (p:PlOk n pl) (st:Store):∃ W,Pw n tb pl n W/\F_poorest_world [tabV tb,poolV pl] st=.ok (tabV W) st:=by
  have h8:=w.n8
  have hn1:-1000000<=(n:Int)/\(n:Int)<=1000000:=by omega
  have hln:cLen st [tabV tb]=.ok (.int n) st:=by simp [tabV,w.len]
  obtain ⟨Γ',S1,e,a3,W,rfl,rfl,pw⟩:=forG_inv (g:=fun k:Nat=>PV.int (k:Int)) (xs:=List.range n) (ga:=gaName 3) (body:=b_poorest_world_1) (w:=[]) (Γ:=[some (tabV tb),some (poolV pl),some (tabV tb),none]) (st:=st)
    (fun i Γ st'=>∃ a3 W,Γ=[some (tabV tb),some (poolV pl),some (tabV W),a3]/\st'=st/\Pw n tb pl i W)
    (fun _ _ _ _=>by simp)
    (fun i k Γ st' hx ⟨a3,W,e1,e2,pw⟩=>by
      subst e1; subst e2
      have hin:i < n:=by simpa using (List.getElem?_eq_some_iff.mp hx).1
      have hki:k=i:=by
        rw [List.getElem?_range hin] at hx
        exact (Option.some.inj hx).symm
      subst hki
      have hi:=in_pool pl k true st'
      by_cases q:k ∈ pl
      · refine ⟨_,rfl,[some (tabV tb),some (poolV pl),some (tabV W),some (.int k)],st',?_,_,_,rfl,rfl,pw.skip q⟩
        have hi:oIn true st' (.int k) (poolV pl)=.ok (.bl false) st':=by rw [hi]; simp [q]
        generalize tabV tb=T at *
        generalize poolV pl=P at *
        generalize tabV W=W' at *
        simp -implicitDefEqProofs [b_poorest_world_1,hi]
      · refine ⟨_,rfl,[some (tabV tb),some (poolV pl),some (tabV (putT W k n (ent W k n + rightsF tb k))),some (.int k)],st',?_,_,_,rfl,rfl,pw.step w c hin q⟩
        have hi:oIn true st' (.int k) (poolV pl)=.ok (.bl true) st':=by rw [hi]; simp [q]
        have hr:=rights_ok w.sz (by omega) hin st'
        have hra:=raised_ok pw.wt.sz (by omega) hin (Nat.le_refl n) (rightsF tb k) st'
        generalize tabV (putT W k n (ent W k n + rightsF tb k))=W2 at *
        generalize tabV tb=T at *
        generalize poolV pl=P at *
        generalize tabV W=W' at *
        simp -implicitDefEqProofs [b_poorest_world_1,hi,hln,hr,hra])
    ⟨_,_,rfl,rfl,Pw.zero w c⟩
  rw [<- rangeI0] at e
  rw [List.length_range] at pw
  refine ⟨W,pw,?_⟩
  have hf:∀ s:Store,fin s (tabV W) s=.ok (tabV W) s:=fun s=>fin_good (by simp [good,tabV,rowV])
  generalize tabV tb=T at *
  generalize poolV pl=P at *
  generalize tabV W=W' at *
  simp -implicitDefEqProofs [F_poorest_world,callF,m_poorest_world,hln,lim_eq,hn1,e,hf]
theorem may_ok {n:Nat} {tb:List (List Int)} (w:Wt' n tb) (c:Ca n tb) {pl:List Nat} (p:PlOk n pl) (k:Int) (st:Store):(k<=poolS tb pl->F_may_use [tabV tb,poolV pl,.int k] st=.ok (.tup [.str "may",.int (poolS tb pl)]) st)/\(¬ k<=poolS tb pl->∃ W,Pw n tb pl n W/\F_may_use [tabV tb,poolV pl,.int k] st=.ok (.tup [.str "must",tabV W]) st):=by
  have h1:=need_pool_ok w c.comes p st
  have h2:=rights_of_ok w p st
  obtain ⟨W,pw,h3⟩:=poorest_ok w c p st
  have hf:fin st (.tup [.str "must",tabV W]) st=.ok (.tup [.str "must",tabV W]) st:=fin_good (by simp [good,tabV,rowV])
  have hf2:∀ x,fin st (.tup [.str "may",.int x]) st=.ok (.tup [.str "may",.int x]) st:=fun x=>fin_good (by simp [good])
  generalize tabV tb=T at *
  generalize poolV pl=P at *
  generalize poolS tb pl=s at *
  refine ⟨fun q=>?_,fun q=>⟨W,pw,?_⟩⟩
  · simp -implicitDefEqProofs [F_may_use,callF,m_may_use,h1,h2,q,hf2,lim_eq]
  · generalize tabV W=W' at *
    simp -implicitDefEqProofs [F_may_use,callF,m_may_use,h1,h2,q,h3,hf,lim_eq]
def dstep (m x:Int):Int:=(m * 69621 + x % 998244353 + 1) % 1000000007
def dM (k:Nat) (pre:List Int):Int:=pre.foldl dstep (1000003 * (k + 1))
theorem dM_snoc (k:Nat) (pre:List Int) (x:Int):dM k (pre ++ [x])=(dM k pre * 69621 + x % 998244353 + 1) % 1000000007:=by
  unfold dM
  rw [List.foldl_append,List.foldl_cons,List.foldl_nil,dstep]
theorem dM_nil (k:Nat):dM k []=1000003 * (k + 1):=by
  unfold dM
  rw [List.foldl_nil]
theorem dM_bd (k:Nat) (hk:k<=1000) (l:List Int):0<=dM k l/\dM k l < 10000000000:=by
  rcases List.eq_nil_or_concat l with rfl | ⟨pre,x,rfl⟩
  · rw [dM_nil]; omega
  · rw [List.concat_eq_append,dM_snoc]
    have:=emod_lt (dM k pre * 69621 + x % 998244353 + 1) (b:=1000000007) (by decide)
    omega
def drawF (k:Nat) (m:Int):Int:=((m * m % 1000000007 + 7919 * k * k) * 48271 % 2147483647) * ((m * m % 1000000007 + 7919 * k * k) * 48271 % 2147483647) % 2147483647 / 8
def drawI (ns:List Int) (k:Nat):Int:=match ns[k]? with
  | some x=>x % 10000000000000000000000000000000000000000
  | none=>drawF k (dM k (ns.take 7))
theorem draw_ok (ns:List Int) (k:Nat) (st:Store) (hk:k<=1000):F__law_b_draw [.fro (ns.map .int),.int k] st=.ok (.int (drawI ns k)) st:=by
  by_cases h:k < ns.length
  · have h':(k:Int) < ns.length:=by omega
    have e:ns[k]?=some ns[k]:=List.getElem?_eq_getElem h
    simp [F__law_b_draw,callF,m__law_b_draw,h,atI_map,atI_get e,drawI]
  · have h':¬ ((k:Int) < ns.length):=by omega
    have hn:ns[k]?=none:=List.getElem?_eq_none (by omega)
    have hcut:cut ns none (some 7)=ns.take 7:=cut_front ns 7
    have hl:(ns.take 7).length<=lim:=by
      rw [List.length_take,lim_eq]
      omega
    have hd:drawI ns k=drawF k (dM k (ns.take 7)):=by
      unfold drawI; rw [hn]
    rw [hd]
    generalize ns.take 7=fr at hcut hl ⊢
    obtain ⟨Γ',st',e1,c,rfl,eΓ⟩:=forG_invL (g:=PV.int) (xs:=fr) (ga:=gaName 3)
      (body:=b__law_b_draw_1) (w:=[])
      (Γ:=[some (.fro (ns.map .int)),some (.int k),some (.int (1000003 * (k + 1))),none]) (st:=st)
      (fun pre Γ st'=>∃ (c:Option PV),st'=st/\Γ=[some (.fro (ns.map .int)),some (.int k),some (.int (dM k pre)),c])
      (fun i Γ st' _=>by simp)
      (fun pre x post Γ st' hx ⟨c,e,eΓ⟩=>by
        subst e; subst eΓ
        refine ⟨_,rfl,[some (.fro (ns.map .int)),some (.int k),some (.int (dM k (pre ++ [x]))),some (.int x)],st',?_,some (.int x),rfl,rfl⟩
        rw [dM_snoc]
        simp [b__law_b_draw_1])
      ⟨none,rfl,by rw [dM_nil]⟩
    subst eΓ
    obtain ⟨hm0,hm1⟩:=dM_bd k hk fr
    generalize dM k fr=m at hm0 hm1 e1 ⊢
    have hb1:-18446744073709551616 < m/\m < 18446744073709551616:=by omega
    unfold drawF
    obtain ⟨q,hq⟩:∃ q,m * m % 1000000007=q:=⟨_,rfl⟩
    rw [hq]
    obtain ⟨r,hr⟩:∃ r:Int,(q + 7919 * k * k) * 48271 % 2147483647=r:=⟨_,rfl⟩
    have hr2:=emod_lt ((q + 7919 * k * k) * 48271) (b:=2147483647) (by omega)
    rw [hr] at hr2 ⊢
    have hb2:-18446744073709551616 < r/\r < 18446744073709551616:=by omega
    have hk1:-18446744073709551616 < (k:Int)/\(k:Int) < 18446744073709551616:=by omega
    simp only [F__law_b_draw,callF,m__law_b_draw]
    simp -implicitDefEqProofs [h,hl,cut_map,hcut,e1,hb1,hq,hk1,hr,hb2]
def fewI (d:Int):Int:=if d % 8 < 5 then 0 else if d % 8 < 7 then 1 + d / 8 % 3 else 1 + d / 8 % 10000000000000000000000000000
theorem fewI_nn (d:Int):0<=fewI d:=by
  have h3:=(emod_lt (d / 8) (b:=3) (by decide)).1
  have h28:=(emod_lt (d / 8) (b:=10000000000000000000000000000) (by omega)).1
  unfold fewI
  split
  · omega
  · split <;> omega
theorem few_ok (d:Int) (st:Store):F__law_b_few [.int d] st=.ok (.int (fewI d)) st:=by
  unfold fewI
  by_cases h5:d % 8 < 5
  · simp [F__law_b_few,callF,m__law_b_few,h5]
  · by_cases h7:d % 8 < 7
    · simp [F__law_b_few,callF,m__law_b_few,h5,h7]
    · simp [F__law_b_few,callF,m__law_b_few,h5,h7]
structure RowsAt (n:Nat) (S:Store) (p q:Nat) (tb:List (List Int)):Prop where
  l:S[p]?=some (.lst ((List.range n).map fun k=>PV.ref (q + k)))
  r:∀ k,k < n->S[q + k]?=some (.lst ((tb.getD k []).map .int))
  d:p < q\/q + n<=p
theorem RowsAt.ix {n p q i:Nat} {S:Store} {tb:List (List Int)} (R:RowsAt n S p q tb) (hi:i < n):oIx S (.ref p) (.int i)=.ok (.ref (q + i)) S:=by
  have:ListAt S (.ref p) _:=.inr (.inr ⟨_,rfl,R.l⟩)
  rw [this.ix,Sm.atI_get (show ((List.range n).map fun k=>PV.ref (q + k))[i]?=some (.ref (q + i)) by rw [List.getElem?_map,List.getElem?_range hi]; rfl)]
  rfl
theorem RowsAt.cell {n p q i j:Nat} {S:Store} {tb:List (List Int)} (R:RowsAt n S p q tb) (z:Sz n tb) (hi:i < n) (hj:j<=n):oIx S (.ref (q + i)) (.int j)=.ok (.int (ent tb i j)) S:=by
  have:ListAt S (.ref (q + i)) _:=.inr (.inr ⟨_,rfl,R.r i hi⟩)
  rw [this.ix,atI_map,Sm.atI_get (z.cell hi hj)]; rfl
theorem RowsAt.tl {n p q:Nat} {S:Store} {tb:List (List Int)} (R:RowsAt n S p q tb) (z:Sz n tb):TabLike S (.ref p) n tb:=by
  refine ⟨?_,fun i hi=>⟨_,R.ix hi,fun j hj=>R.cell z hi hj⟩⟩
  have:ListAt S (.ref p) _:=.inr (.inr ⟨_,rfl,R.l⟩)
  rw [this.len]
  simp
theorem put_okE {n p q i j:Nat} {S:Store} {tb:List (List Int)} (R:RowsAt n S p q tb) (w:Wt' n tb) {x:Int} (hx:0<=x) (hi:i < n) (hj:j<=n) (mo mi mj mv:ME) (Γ:Gam) (hv:mv Γ S=.ok (.int x) S) (ho:mo Γ S=.ok (.ref p) S) (hmi:mi Γ S=.ok (.int i) S) (hmj:mj Γ S=.ok (.int j) S) :
    ∃ S',RowsAt n S' p q (tb.set i ((tb.getD i []).set j x))/\Wt' n (tb.set i ((tb.getD i []).set j x))/\(∀ t,(t < q\/q + n<=t)->S'[t]?=S[t]?)/\mSetIx (mOp oIx mo mi) mj mv Γ S=.nx Γ S':=by
  have hl:=(w.sz.row hi).2
  have hr:=R.r i hi
  have hil:=(List.getElem?_eq_some_iff.mp hr).1
  refine ⟨S.set (q + i) (.lst (((tb.getD i []).set j x).map .int)),⟨?_,fun k hk=>?_,R.d⟩,w.set0 hi hx,fun t ht=>?_,?_⟩
  · rw [List.getElem?_set_ne (by have:=R.d; omega)]
    exact R.l
  · by_cases e:k=i
    · subst e
      have hkl:k < tb.length:=by rw [w.len]; exact hk
      generalize (tb.getD k []).set j x=row
      rw [List.getElem?_set_self hil,List.getD,List.getElem?_set_self hkl]; rfl
    · rw [List.getElem?_set_ne (by omega),R.r k hk,List.getD,List.getD,List.getElem?_set_ne (fun z=>e z.symm)]
  · rw [List.getElem?_set_ne (by omega)]
  · have x1:=R.ix hi
    have x2:setIx S (.ref (q + i)) (.int j) (.int x)=some (S.set (q + i) (.lst (((tb.getD i []).set j x).map .int))):=by
      unfold setIx
      simp only [hr,List.length_map,ixN_nat (show j < (tb.getD i []).length by omega),Option.map_some]
      rw [List.map_set]
    generalize S.set (q + i) (.lst (((tb.getD i []).set j x).map .int))=S2 at *
    simp -implicitDefEqProofs [hv,ho,hmi,x1,hmj,x2,-setIx_r]
abbrev dΓ (p:Nat) (ns:List Int) (hs:List Nat) (n:Nat) (at' many:Int) (k a7 a8 a9 a10 a11 a12:Option PV):Gam:=[some (.ref p),some (.fro (ns.map .int)),some (.int at'),some (.int many),some (.lst (hs.map intV)),some (.int n),k,a7,a8,a9,a10,a11,a12]
theorem pick_ok {n g:Nat} (hg:g < n) (x:Int) (S:Store) (X:MS) (p:Nat) (ns:List Int) (hs:List Nat) (at' many:Int) (k a8 a10 a11 a12:Option PV) (w:Int) (h8:a8=some (.int w)):∃ j:Nat,j<=n/\j ≠ g /\
    (mSeqS (mSet 12 (mVar 5)) (mSeqS (mIfS (toB (mOp oLt (mVar 8) (mC (.int 4)))) (mSet 12 (mOp oMod (mOp oDiv (mVar 7) (mC (.int 40))) (mVar 5))) mNext) (mSeqS (mIfS (toB (mOp oEq (mVar 12) (mVar 9))) (mSet 12 (mVar 5)) mNext) X))) (dΓ p ns hs n at' many k (some (.int x)) a8 (some (.int g)) a10 a11 a12) S=X (dΓ p ns hs n at' many k (some (.int x)) a8 (some (.int g)) a10 a11 (some (.int j))) S:=by
  subst h8
  have hn0:0 < n:=by omega
  have hng:¬ ((n:Int)=g):=by omega
  unfold dΓ
  generalize ns.map PV.int=nv at *
  generalize hs.map intV=hv at *
  by_cases q:w < 4
  · obtain ⟨m,hm,em⟩:=modN (x / 40) (n:=n) (by omega)
    by_cases q2:m=g
    · have q2':(m:Int)=g:=by omega
      refine ⟨n,Nat.le_refl n,by omega,?_⟩
      simp -implicitDefEqProofs [q,em,q2',hn0]
    · have q2':¬ (m:Int)=g:=by omega
      refine ⟨m,by omega,q2,?_⟩
      simp -implicitDefEqProofs [q,em,q2',hn0]
  · refine ⟨n,Nat.le_refl n,by omega,?_⟩
    simp -implicitDefEqProofs [q,hng]
theorem deed_turn {n p q:Nat} {ns:List Int} {hs:List Nat} (hne:hs ≠ []) (hlt:∀ h ∈ hs,h < n) {S:Store} {tb:List (List Int)} (R:RowsAt n S p q tb) (w:Wt' n tb) (a k:Nat) (hak:a + k<=1000) (many:Int) (a7 a8 a9 a10 a11 a12:Option PV) :
    ∃ b7 b8 b9 b10 b11 b12 S' tb',RowsAt n S' p q tb'/\Wt' n tb'/\(Ca n tb->Ca n tb')/\(∀ t,(t < q\/q + n<=t)->S'[t]?=S[t]?)/\b__law_b_deeds_1 (dΓ p ns hs n a many (some (.int k)) a7 a8 a9 a10 a11 a12) S=.nx (dΓ p ns hs n a many (some (.int k)) b7 b8 b9 b10 b11 b12) S':=by
  have h8n:=w.n8
  have hp0:1<=hs.length:=List.length_pos_iff.mpr hne
  have hd:=draw_ok ns (a + k) S hak
  rw [show ((a + k:Nat):Int)=(a:Int) + k by push_cast; rfl] at hd
  obtain ⟨x,hx⟩:∃ x,drawI ns (a + k)=x:=⟨_,rfl⟩
  rw [hx] at hd
  obtain ⟨m,hm,em⟩:=modN (x / 5) hp0
  have gm:=getD_some hm 0
  have hg:hs.getD m 0 < n:=hlt _ (List.mem_of_getElem? gm)
  have xm:atI (hs.map intV) (m:Int)=some (.int (hs.getD m 0:Nat)):=by rw [atI_map,Sm.atI_get gm]; rfl
  obtain ⟨g,eg⟩:∃ g,hs.getD m 0=g:=⟨_,rfl⟩
  rw [eg] at hg xm
  have hr:=lrights_ok (R.tl w.sz) (by omega) hg
  rw [lr_eq w.sz hg] at hr
  obtain ⟨has,ehas⟩:∃ has,rightsF tb g=has:=⟨_,rfl⟩
  rw [ehas] at hr
  have hml:(hs.map intV).length=hs.length:=List.length_map _
  have hp0':0 < hs.length:=hp0
  have s1:mSet 7 (mCallF 2 F__law_b_draw (mCons (mVar 1) (mCons (mOp oAdd (mVar 2) (mVar 6)) mNil))) (dΓ p ns hs n a many (some (.int k)) a7 a8 a9 a10 a11 a12) S=.nx (dΓ p ns hs n a many (some (.int k)) (some (.int x)) a8 a9 a10 a11 a12) S:=by
    unfold dΓ
    generalize ns.map PV.int=nv at *
    generalize hs.map intV=hv at *
    simp -implicitDefEqProofs [hd]
  have s2:mSet 8 (mOp oMod (mVar 7) (mC (.int 5))) (dΓ p ns hs n a many (some (.int k)) (some (.int x)) a8 a9 a10 a11 a12) S=.nx (dΓ p ns hs n a many (some (.int k)) (some (.int x)) (some (.int (x % 5))) a9 a10 a11 a12) S:=by
    unfold dΓ
    generalize ns.map PV.int=nv at *
    generalize hs.map intV=hv at *
    simp -implicitDefEqProofs
  have s3:mSet 9 (mOp oIx (mVar 4) (mOp oMod (mOp oDiv (mVar 7) (mC (.int 5))) (mCall cLen (mCons (mVar 4) mNil)))) (dΓ p ns hs n a many (some (.int k)) (some (.int x)) (some (.int (x % 5))) a9 a10 a11 a12) S=.nx (dΓ p ns hs n a many (some (.int k)) (some (.int x)) (some (.int (x % 5))) (some (.int g)) a10 a11 a12) S:=by
    unfold dΓ
    generalize ns.map PV.int=nv at *
    generalize hs.length=len at *
    generalize hs.map intV=hv at *
    simp -implicitDefEqProofs [hml,hp0',em,xm]
  have s4:mSet 10 (mCallF 2 F__law_b_rights (mCons (mVar 0) (mCons (mVar 9) mNil))) (dΓ p ns hs n a many (some (.int k)) (some (.int x)) (some (.int (x % 5))) (some (.int g)) a10 a11 a12) S=.nx (dΓ p ns hs n a many (some (.int k)) (some (.int x)) (some (.int (x % 5))) (some (.int g)) (some (.int has)) a11 a12) S:=by
    unfold dΓ
    generalize ns.map PV.int=nv at *
    generalize hs.map intV=hv at *
    simp -implicitDefEqProofs [hr]
  obtain ⟨y,hy1,s56⟩:∃ y:Int,1<=y/\∀ X:MS,(mSeqS (mSet 11 (mOp oAdd (mC (.int 1)) (mOp oMod (mOp oDiv (mVar 7) (mC (.int 40))) (mC (.int 5))))) (mSeqS (mIfS (toB (mOp oEq (mOp oMod (mOp oDiv (mVar 7) (mC (.int 200))) (mC (.int 8))) (mC (.int 7)))) (mSet 11 (mOp oAdd (mC (.int 1)) (mOp oMod (mOp oDiv (mVar 7) (mC (.int 1600))) (mOp oPow (mC (.int 10)) (mC (.int 20)))))) mNext) X)) (dΓ p ns hs n a many (some (.int k)) (some (.int x)) (some (.int (x % 5))) (some (.int g)) (some (.int has)) a11 a12) S=X (dΓ p ns hs n a many (some (.int k)) (some (.int x)) (some (.int (x % 5))) (some (.int g)) (some (.int has)) (some (.int y)) a12) S:=by
    unfold dΓ
    generalize ns.map PV.int=nv at *
    generalize hs.map intV=hv at *
    by_cases q7:x / 200 % 8=7
    · have:=emod_lt (x / 1600) (b:=100000000000000000000) (by omega)
      refine ⟨1 + x / 1600 % 100000000000000000000,by omega,fun X=>?_⟩
      simp -implicitDefEqProofs [q7]
    · have:=emod_lt (x / 40) (b:=5) (by omega)
      refine ⟨1 + x / 40 % 5,by omega,fun X=>?_⟩
      simp -implicitDefEqProofs [q7]
  unfold b__law_b_deeds_1
  rw [mSeqS_eq,s1]
  simp only []
  rw [mSeqS_eq,s2]
  simp only []
  rw [mSeqS_eq,s3]
  simp only []
  rw [mSeqS_eq,s4]
  simp only []
  rw [s56]
  obtain ⟨b,hb,ht⟩:∃ b:Bool,(b=false->1<=has)/\(tOrM (toB (mOp oLt (mVar 8) (mC (.int 2)))) (toB (mOp oLt (mVar 10) (mC (.int 1))))) (dΓ p ns hs n a many (some (.int k)) (some (.int x)) (some (.int (x % 5))) (some (.int g)) (some (.int has)) (some (.int y)) a12) S=.ok b S:=by
    unfold dΓ
    generalize ns.map PV.int=nv at *
    generalize hs.map intV=hv at *
    generalize x % 5=w5 at *
    by_cases q1:w5 < 2
    · exact ⟨true,fun z=>(by cases z),by simp -implicitDefEqProofs [q1]⟩
    · by_cases q2:has < 1
      · exact ⟨true,fun z=>(by cases z),by simp -implicitDefEqProofs [q1,q2]⟩
      · exact ⟨false,fun _=>by omega,by simp -implicitDefEqProofs [q1,q2]⟩
  rw [mIfS_eq,ht,sbind_ok]
  have c1:=R.ix hg
  cases b with
  | true=>
    have c2:=R.cell w.sz hg (Nat.le_of_lt hg)
    have he:=w.ent_nn hg (Nat.le_of_lt hg)
    obtain ⟨S1,R1,w1,k1,e1⟩:=put_okE R w (x:=ent tb g g + y) (by omega) hg (Nat.le_of_lt hg) (mVar 0) (mVar 9) (mVar 9) (mOp oAdd (mOp oIx (mOp oIx (mVar 0) (mVar 9)) (mVar 9)) (mVar 11)) (dΓ p ns hs n a many (some (.int k)) (some (.int x)) (some (.int (x % 5))) (some (.int g)) (some (.int has)) (some (.int y)) a12) (by
        unfold dΓ
        generalize ent tb g g=z at *
        generalize ns.map PV.int=nv at *
        generalize hs.map intV=hv at *
        simp -implicitDefEqProofs [c1,c2]) rfl rfl rfl
    rw [if_pos rfl]
    exact ⟨_,_,_,_,_,_,S1,_,R1,w1,fun c=>c.make w hg (by omega) w1,k1,e1⟩
  | false=>
    have h1:=hb rfl
    rw [if_neg (by simp)]
    obtain ⟨j,hj,hjg,ej⟩:=pick_ok hg x S (mSetIx (mOp oIx (mVar 0) (mVar 9)) (mVar 12) (mOp oAdd (mOp oIx (mOp oIx (mVar 0) (mVar 9)) (mVar 12)) (mCall cMin (mCons (mVar 11) (mCons (mVar 10) mNil))))) p ns hs a many (some (.int k)) (some (.int (x % 5))) (some (.int has)) (some (.int y)) a12 _ rfl
    rw [ej]
    have c2:=R.cell w.sz hg hj
    have he:=w.ent_nn hg hj
    obtain ⟨mn,hmn,m0,m1⟩:∃ mn:Int,(if has < y then has else y)=mn/\0<=mn/\mn<=has:=by
      by_cases q:has < y
      · exact ⟨has,if_pos q,by omega,by omega⟩
      · exact ⟨y,if_neg q,by omega,by omega⟩
    obtain ⟨S1,R1,w1,k1,e1⟩:=put_okE R w (x:=ent tb g j + mn) (by omega) hg hj (mVar 0) (mVar 9) (mVar 12) (mOp oAdd (mOp oIx (mOp oIx (mVar 0) (mVar 9)) (mVar 12)) (mCall cMin (mCons (mVar 11) (mCons (mVar 10) mNil)))) (dΓ p ns hs n a many (some (.int k)) (some (.int x)) (some (.int (x % 5))) (some (.int g)) (some (.int has)) (some (.int y)) (some (.int j))) (by
        unfold dΓ
        generalize ent tb g j=z at *
        generalize ns.map PV.int=nv at *
        generalize hs.map intV=hv at *
        simp -implicitDefEqProofs [c1,c2,hmn]) rfl rfl rfl
    exact ⟨_,_,_,_,_,_,S1,_,R1,w1,fun c=>c.give w hg hj hjg m0 (by rw [ehas]; exact m1) (by rw [ehas]; exact h1) w1,k1,e1⟩
theorem deeds_ok {n p q:Nat} {ns:List Int} {hs:List Nat} (hne:hs ≠ []) (hlt:∀ h ∈ hs,h < n) {S:Store} {tb:List (List Int)} (R:RowsAt n S p q tb) (w:Wt' n tb) (a many:Nat) (ha:a + many<=1000) :
    ∃ S' tb',RowsAt n S' p q tb'/\Wt' n tb'/\(Ca n tb->Ca n tb')/\F__law_b_deeds [.ref p,.fro (ns.map .int),.int a,.int many,.lst (hs.map intV)] S=.ok (.ref p) S':=by
  have hm1:-1000000<=(many:Int)/\(many:Int)<=1000000:=by omega
  have hln:=(R.tl w.sz).len
  obtain ⟨Γ',S1,e,b6,b7,b8,b9,b10,b11,b12,tb1,rfl,R1,w1,c1⟩:=forG_inv (g:=fun k:Nat=>PV.int (k:Int)) (xs:=List.range many) (ga:=gaName 6) (body:=b__law_b_deeds_1) (w:=[]) (Γ:=dΓ p ns hs n a many none none none none none none none) (st:=S)
    (fun _ Γ st'=>∃ b6 b7 b8 b9 b10 b11 b12 tb1,Γ=dΓ p ns hs n a many b6 b7 b8 b9 b10 b11 b12/\RowsAt n st' p q tb1/\Wt' n tb1/\(Ca n tb->Ca n tb1))
    (fun _ _ _ _=>by simp)
    (fun i k Γ st' hx ⟨b6,b7,b8,b9,b10,b11,b12,tb1,e1,R1,w1,c1⟩=>by
      subst e1
      have hk:k < many:=List.mem_range.mp (List.mem_of_getElem? hx)
      obtain ⟨d7,d8,d9,d10,d11,d12,S2,tb2,R2,w2,c2,_,e2⟩:=deed_turn (ns:=ns) hne hlt R1 w1 a k (by omega) many b7 b8 b9 b10 b11 b12
      exact ⟨_,rfl,_,S2,e2,_,_,_,_,_,_,_,_,rfl,R2,w2,fun c=>c2 (c1 c)⟩)
    ⟨_,_,_,_,_,_,_,_,rfl,R,w,fun c=>c⟩
  rw [<- rangeI0] at e
  refine ⟨S1,tb1,R1,w1,c1,?_⟩
  unfold dΓ at e
  generalize hs.map intV=hv at *
  generalize ns.map PV.int=nv at *
  have s1:mSet 5 (mCall cLen (mCons (mVar 0) mNil)) [some (PV.ref p),some (.fro nv),some (.int a),some (.int many),some (.lst hv),none,none,none,none,none,none,none,none] S=.nx [some (.ref p),some (.fro nv),some (.int a),some (.int many),some (.lst hv),some (.int n),none,none,none,none,none,none,none] S:=by
    simp only [mSet_eq,mCall_eq,mCons_eq,mVar_eq,mNil_eq,bind_ok,List.getElem?_cons_zero,hln,sbind_ok]; rfl
  have step:m__law_b_deeds [some (.ref p),some (.fro nv),some (.int a),some (.int many),some (.lst hv),none,none,none,none,none,none,none,none] S=.rt (.ref p) S1:=by
    unfold m__law_b_deeds
    rw [mSeqS_eq,s1]
    simp -implicitDefEqProofs [lim_eq,hm1,e]
  show callK m__law_b_deeds 13 _ S=_
  unfold callK
  rw [show (([PV.ref p,.fro nv,.int a,.int many,.lst hv]:List PV).map some ++ List.replicate (13 - [PV.ref p,.fro nv,.int a,.int many,.lst hv].length) none)=[some (.ref p),some (.fro nv),some (.int a),some (.int many),some (.lst hv),none,none,none,none,none,none,none,none] from rfl,step]
theorem eq_ref {M:Store} {L:Nat} {os:List Nat} (hM:M[L]?=some (.lst (os.map intV))):oEq M (.ref L) (.lst [])=.ok (.bl os.isEmpty) M:=by
  cases os with
  | nil=>simp [oEq,der,hM,peq,peqL,good,dep]
  | cons x xs=>simp [oEq,der,hM,peq,peqL,good,dep,intV]
theorem pool_loop (n:Nat) (hn8:n<=8) (d:Int) (S:Store):∃ (rest:Int) (c:Option PV) (os:List Nat),os.Pairwise (· < ·)/\(∀ x ∈ os,x < n)/\os.length<=n/\forG (gaName 4) b__law_b_pool_1 [] (rangeI 0 n) [some (.int n),some (.int d),some (.ref S.length),some (.int d),none] (S ++ [.lst []])=.nx [some (.int n),some (.int d),some (.ref S.length),some (.int rest),c] (S ++ [.lst (os.map intV)]):=by
  obtain ⟨Γ',st',e,rest,c,os,rfl,rfl,o1,o2,o3⟩:=forG_inv (g:=fun k:Nat=>PV.int (k:Int)) (xs:=List.range n) (ga:=gaName 4) (body:=b__law_b_pool_1) (w:=[]) (Γ:=[some (.int n),some (.int d),some (.ref S.length),some (.int d),none]) (st:=S ++ [.lst []])
    (fun k Γ st'=>∃ (rest:Int) (c:Option PV) (os:List Nat),Γ=[some (.int n),some (.int d),some (.ref S.length),some (.int rest),c]/\st'=S ++ [.lst (os.map intV)]/\os.Pairwise (· < ·)/\(∀ x ∈ os,x < k)/\os.length<=k)
    (fun _ _ _ _=>by simp)
    (fun k x Γ st' hx ⟨rest,c,os,h1,h2,o1,o2,o3⟩=>by
      subst h1; subst h2
      have hkn:k < n:=by simpa using (List.getElem?_eq_some_iff.mp hx).1
      have hxk:x=k:=by
        rw [List.getElem?_range hkn] at hx
        exact (Option.some.inj hx).symm
      subst hxk
      by_cases q:rest % 2=1
      · refine ⟨_,rfl,[some (.int n),some (.int d),some (.ref S.length),some (.int (rest / 2)),some (.int x)],S ++ [.lst ((os ++ [x]).map intV)],?_,_,_,_,rfl,rfl,?_,fun y hy=>?_,by simp; omega⟩
        · rw [List.map_append]
          have hl:(os.map intV).length < 1000000:=by rw [List.length_map]; omega
          generalize os.map intV=ys at *
          simp -implicitDefEqProofs [b__law_b_pool_1,q,hl,lim_eq]
          rfl
        · rw [List.pairwise_append]
          refine ⟨o1,by simp,fun a ha b hb=>?_⟩
          have:b=x:=by simpa using hb
          rw [this]; exact o2 a ha
        · rcases List.mem_append.mp hy with hy | hy
          · have:=o2 y hy; omega
          · have:y=x:=by simpa using hy
            omega
      · refine ⟨_,rfl,[some (.int n),some (.int d),some (.ref S.length),some (.int (rest / 2)),some (.int x)],S ++ [.lst (os.map intV)],?_,_,_,_,rfl,rfl,o1,fun y hy=>by have:=o2 y hy; omega,by omega⟩
        generalize S ++ [Cell.lst (os.map intV)]=T at *
        simp -implicitDefEqProofs [b__law_b_pool_1,q])
    ⟨d,none,[],rfl,rfl,List.Pairwise.nil,fun x hx=>(by cases hx),by simp⟩
  rw [List.length_range] at o2 o3
  rw [<- rangeI0] at e
  exact ⟨rest,c,os,o1,o2,o3,e⟩
theorem pool_ok (n:Nat) (h1:1<=n) (hn8:n<=8) (d:Int) (S:Store):∃ pl,PlOk n pl/\F__law_b_pool [.int n,.int d] S=.ok (poolV pl) S:=by
  have hn1:-1000000<=(n:Int)/\(n:Int)<=1000000:=by omega
  obtain ⟨rest,c,os,o1,o2,o3,e⟩:=pool_loop n hn8 d S
  have hM:(S ++ [Cell.lst (os.map intV)])[S.length]?=some (.lst (os.map intV)):=by simp
  have hq:=eq_ref hM
  cases os with
  | nil=>
    obtain ⟨m,hm,em⟩:=modN (d / 2) h1
    refine ⟨[m],⟨by simp,fun x hx=>?_,by simp,by simp⟩,?_⟩
    · have:x=m:=by simpa using hx
      omega
    · have hf:fin S (poolV [m]) (S ++ [Cell.lst [],Cell.lst [PV.int m]])=.ok (poolV [m]) S:=fin_goodA (by simp [good,poolV,intV])
      have hpv:PV.tup [PV.int m]=poolV [m]:=rfl
      have hn0:0 < n:=h1
      simp at hq
      simp -implicitDefEqProofs [F__law_b_pool,callF,m__law_b_pool,lim_eq,hn1,e,hq,em,hn0,hpv,hf]
  | cons y ys=>
    refine ⟨y :: ys,⟨by simp,o2,o1,by omega⟩,?_⟩
    have hq:oEq (S ++ [Cell.lst ((y :: ys).map intV)]) (.ref S.length) (.lst [])=.ok (.bl false) (S ++ [Cell.lst ((y :: ys).map intV)]):=hq
    have hf:fin S (poolV (y :: ys)) (S ++ [Cell.lst ((y :: ys).map intV)])=.ok (poolV (y :: ys)) S:=fin_goodA (by simp [good,poolV,intV])
    have hpv:PV.tup ((y :: ys).map intV)=poolV (y :: ys):=rfl
    generalize (y :: ys).map intV=ov at *
    simp -implicitDefEqProofs [F__law_b_pool,callF,m__law_b_pool,lim_eq,hn1,e,hq,hpv,hf,-oEq_int]
theorem rows_mk {n:Nat} {S cells:Store} {tb:List (List Int)} (hl:cells.length=n) (hc:∀ k,k < n->cells[k]?=some (.lst ((tb.getD k []).map .int))):RowsAt n (S ++ cells ++ [.lst ((List.range n).map fun k=>PV.ref (S.length + k))]) (S.length + n) S.length tb:=by
  have hlen:(S ++ cells).length=S.length + n:=by simp [hl]
  refine ⟨?_,fun k hk=>?_,.inr (Nat.le_refl _)⟩
  · rw [<- hlen]; simp
  · rw [List.getElem?_append_left (by omega),List.getElem?_append_right (by omega),Nat.add_sub_cancel_left]
    exact hc k hk
theorem tuples_ok {n p q:Nat} {S:Store} {tb:List (List Int)} (R:RowsAt n S p q tb) (w:Wt' n tb):F__law_b_tuples [.ref p] S=.ok (tabV tb) S:=by
  have h8:=w.n8
  obtain ⟨refs,hrefs⟩:∃ refs,((List.range n).map fun k=>PV.ref (q + k))=refs:=⟨_,rfl⟩
  have hl:=R.l
  rw [hrefs] at hl
  have hc1:compG (gaName 0) mTrue e__law_b_tuples_1 [(p,refs)] (capG [none] [some (.ref p)]) refs S=.ok (tb.map rowV) S:=by
    have e:tb.map rowV=(List.range n).map fun k=>rowV (tb.getD k []):=by
      have:=map_getD tb [] rowV
      rw [w.len] at this
      exact this
    rw [e]
    conv=>lhs; arg 6; rw [<- hrefs]
    refine compG_on _ _ (by simp [wOk,hl]) fun k hk=>⟨_,rfl,?_⟩
    have g:=R.r k (List.mem_range.mp hk)
    generalize q + k=t at *
    simp -implicitDefEqProofs [capG,e__law_b_tuples_1,g]
    rfl
  have hrl:refs.length<=1000000:=by rw [<- hrefs]; simp; omega
  have hT:PV.tup (tb.map rowV)=tabV tb:=rfl
  have hf:fin S (tabV tb) S=.ok (tabV tb) S:=fin_good (by simp [good,tabV,rowV])
  generalize tb.map rowV=tv at *
  simp -implicitDefEqProofs [F__law_b_tuples,callF,m__law_b_tuples,hl,hrl,lim_eq,hc1,hT,hf]
theorem zrows_ok (n:Nat) (hn8:n<=8) (Γ:Gam) (h0:Γ[2]?=some (some (.int n))) (S:Store):compG (gaName 0) mTrue e_law_1 [] (capG [none,some 2] Γ) (rangeI 0 n) S=.ok ((List.range n).map fun k=>.ref (S.length + k)) (S ++ List.replicate n (Cell.lst ((zRow n).map .int))):=by
  rw [rangeI0]
  obtain ⟨out,st',e,rfl,rfl⟩:=compG_inv (g:=fun k:Nat=>PV.int (k:Int)) (xs:=List.range n) (ga:=gaName 0) (me:=e_law_1) (w:=[]) (Γ0:=capG [none,some 2] Γ) (st:=S)
    (fun i out st'=>out=(List.range i).map (fun k=>PV.ref (S.length + k))/\st'=S ++ List.replicate i (Cell.lst ((zRow n).map .int)))
    (fun i out st' _=>by simp)
    (fun i r out st' hr ⟨e1,e2⟩=>by
      subst e1; subst e2
      have hlen:(S ++ List.replicate i (Cell.lst ((zRow n).map .int))).length=S.length + i:=by simp
      refine ⟨_,rfl,.ref (S.length + i),S ++ List.replicate (i + 1) (Cell.lst ((zRow n).map .int)),?_,?_,rfl⟩
      · rw [List.replicate_succ',<- List.append_assoc,<- hlen]
        generalize S ++ List.replicate i (Cell.lst ((zRow n).map .int))=T
        have hz:(zRow n).map PV.int=List.replicate (n + 1) (.int 0):=by simp [zRow]
        rw [hz]
        have b1:-9223372036854775808<=(n:Int) + 1/\(n:Int) + 1 < 9223372036854775808/\n + 1<=1000000:=by omega
        simp -implicitDefEqProofs [capG,h0,e_law_1,oRepN,lim_eq,b1]
      · rw [List.range_succ,List.map_append]; rfl)
    ⟨rfl,by simp⟩
  rw [e,List.length_range]
theorem bare_ok (n:Nat) (h1:1<=n) (hn:n<=8) (st:Store):F_bare [.int n] st=.ok (tabV (List.replicate n (List.replicate (n + 1) 0))) st:=by
  have h2:n + 1<=4096:=by omega
  have h3:n<=4096:=by omega
  have h4:(1:Int)<=n + 1:=by omega
  have h6:(1:Int)<=n:=by omega
  have h5:((n:Int) + 1).toNat=n + 1:=by omega
  have hg:good 12 (tabV (List.replicate n (List.replicate (n + 1) 0)))=true:=by simp [good,tabV,rowV]
  have hf:=fin_good (st:=st) hg
  have et:tabV (List.replicate n (List.replicate (n + 1) 0))=PV.tup (List.replicate n (PV.tup (List.replicate (n + 1) (.int 0)))):=by
    simp only [tabV,rowV,List.map_replicate]
  rw [et] at hf ⊢
  simp -implicitDefEqProofs [F_bare,callF,m_bare,lim_eq,h5,h2,h3,h4,h1,h6,hf]
def hsIn (n:Nat) (js:List Int):Bool:=js.all fun i=>decide (0<=i) && decide (i < (n:Int))
def poolB (n:Nat) (js:List Int):Bool:=!js.isEmpty && (hsIn n js && riseF js)
theorem houses30 {n:Nat} {tb:List (List Int)} (hn:tb.length=n) {js:List Int} (hl:js.length<=1000) (st:Store):F_are_houses [tabV tb,rowV js] st=.ok (.bl (hsIn n js)) st:=by
  have hc:compG (gaName 0) mTrue e_are_houses_1 [] (capG [none,some 0] [some (tabV tb),some (rowV js)]) (js.map .int) st=.ok ((js.map fun i=>decide (0<=i) && decide (i < (n:Int))).map .bl) st:=by
    rw [List.map_map]
    refine compG_on _ _ (by simp) fun h hh=>⟨_,rfl,?_⟩
    have:=is_house_ok (V:=tabV tb) (n:=n) (st:=st) (by simp [tabV,hn]) h
    show _=Res.ok (PV.bl (decide (0<=h) && decide (h < (n:Int)))) st
    generalize (decide (0<=h) && decide (h < (n:Int)))=b at *
    simp [capG,e_are_houses_1,this]
  have hl':(js.map PV.int).length<=1000000:=by rw [List.length_map]; omega
  have ha:(js.map fun i=>decide (0<=i) && decide (i < (n:Int))).all id=hsIn n js:=all_id _ _
  unfold rowV at *
  generalize hsIn n js=b at *
  generalize (js.map fun i=>decide (0<=i) && decide (i < (n:Int)))=bs at *
  generalize js.map PV.int=pv at *
  simp -implicitDefEqProofs [F_are_houses,callF,m_are_houses,hl',lim_eq,hc,ha]
theorem rising30 {js:List Int} (hl:js.length<=1000) (st:Store):F_is_rising [rowV js] st=.ok (.bl (riseF js)) st:=by
  have hsl:cut (js.map PV.int) (some 1) none=(js.drop 1).map PV.int:=by
    rw [cut_map]
    have:=cut_back js 1
    exact congrArg _ this
  have hc:compG (gaTup (gaCons (gaName 0) (gaCons (gaName 1) gaNil))) mTrue e_is_rising_1 [] (capG [none,none] [some (rowV js)]) ((js.zip (js.drop 1)).map fun z=>.tup [.int z.1,.int z.2]) st=.ok (((js.zip (js.drop 1)).map fun z=>decide (z.1 < z.2)).map .bl) st:=by
    rw [List.map_map]
    refine compG_on _ _ (by simp) fun z hz=>⟨_,rfl,?_⟩
    show _=Res.ok (PV.bl (decide (z.1 < z.2))) st
    simp [capG,e_is_rising_1]
  have ha:((js.zip (js.drop 1)).map fun z=>decide (z.1 < z.2)).all id=riseF js:=all_id _ _
  have hl':js.length<=1000000:=by omega
  unfold rowV at *
  generalize riseF js=b at *
  generalize ((js.zip (js.drop 1)).map fun z=>decide (z.1 < z.2))=bs at *
  generalize js.drop 1=ds at *
  simp -implicitDefEqProofs [F_is_rising,callF,m_is_rising,hsl,hl',lim_eq,zipT_map,hc,ha]
theorem is_pool30 {n:Nat} {tb:List (List Int)} (hn:tb.length=n) {js:List Int} (hl:js.length<=1000) (st:Store):F_is_pool [tabV tb,rowV js] st=.ok (.bl (poolB n js)) st:=by
  have h3:=houses30 hn hl st
  have h4:=rising30 hl st
  cases js with
  | nil=>simp -implicitDefEqProofs [F_is_pool,callF,m_is_pool,isI,tyN,rowV,poolB]
  | cons j js=>
    have hp2:¬ (((js.length:Int) + 1)=0):=by omega
    have hb:poolB n (j :: js)=(hsIn n (j :: js) && riseF (j :: js)):=rfl
    rw [hb]
    have hi:isI "tuple" (rowV (j :: js))=true:=rfl
    have hlen:cLen st [rowV (j :: js)]=.ok (.int ((js.length:Int) + 1)) st:=by simp [rowV]
    generalize hsIn n (j :: js)=b1 at *
    generalize riseF (j :: js)=b2 at *
    generalize rowV (j :: js)=J at *
    generalize tabV tb=T at *
    cases b1 <;> simp -implicitDefEqProofs [F_is_pool,callF,m_is_pool,hi,hlen,hp2,h3,h4]
theorem poolB_ok {n:Nat} (h8:n<=8) {js:List Int} (h:poolB n js=true):∃ pl,PlOk n pl/\rowV js=poolV pl:=by
  unfold poolB at h
  rw [Bool.and_eq_true,Bool.and_eq_true] at h
  obtain ⟨h1,h2,h3⟩:=h
  have hin:∀ i ∈ js,0<=i/\i < (n:Int):=fun i hi=>by
    have:=List.all_eq_true.mp h2 i hi
    simpa using this
  have hr:=(riseF_iff js).mp h3
  have e:js=(js.map Int.toNat).map fun k:Nat=>(k:Int):=by
    rw [List.map_map]
    conv=>lhs; rw [<- List.map_id js]
    refine List.map_congr_left fun i hi=>?_
    have:=hin i hi
    show i=((i.toNat:Nat):Int)
    omega
  have hinc:(js.map Int.toNat).Pairwise (· < ·):=by
    rw [List.pairwise_iff_getElem]
    have key:∀ d i,(hd:i + d + 1 < js.length)->js.getD i 0 < js.getD (i + d + 1) 0:=by
      intro d
      induction d with
      | zero=>intro i hd; exact hr i hd
      | succ d ih=>
        intro i hd
        have a:=ih i (by omega)
        have b:=hr (i + d + 1) (by omega)
        have:i + (d + 1) + 1=i + d + 1 + 1:=by omega
        rw [this]
        omega
    intro i j hi hj hij
    rw [List.length_map] at hi hj
    have a:=key (j - i - 1) i (by omega)
    rw [show i + (j - i - 1) + 1=j by omega] at a
    have g:∀ k (hk:k < js.length),js.getD k 0=js[k]:=fun k hk=>by simp [List.getD,hk]
    rw [g i hi,g j hj] at a
    have b1:=hin _ (List.getElem_mem hi)
    have b2:=hin _ (List.getElem_mem hj)
    simp only [List.getElem_map]
    omega
  have hlt:∀ h ∈ js.map Int.toNat,h < n:=fun h hh=>by
    obtain ⟨i,hi,rfl⟩:=List.mem_map.mp hh
    have:=hin i hi
    omega
  refine ⟨js.map Int.toNat,⟨fun q=>?_,hlt,hinc,?_⟩,?_⟩
  · have:js=[]:=List.map_eq_nil_iff.mp q
    subst this
    simp at h1
  · rw [List.length_map]
    have up:∀ k,k < js.length->(k:Int)<=js.getD k 0:=by
      intro k
      induction k with
      | zero=>
        intro hk
        have:js.getD 0 0=js[0]:=by simp [List.getD,hk]
        rw [this]
        exact (hin _ (List.getElem_mem hk)).1
      | succ k ih=>
        intro hk
        have a:=ih (by omega)
        have b:=hr k hk
        omega
    cases hz:js.length with
    | zero=>omega
    | succ m=>
      have a:=up m (by omega)
      have hm:m < js.length:=by omega
      have:js.getD m 0=js[m]:=by simp [List.getD,hm]
      rw [this] at a
      have b:=hin _ (List.getElem_mem hm)
      omega
  · unfold rowV poolV
    conv=>lhs; rw [e]
    rw [List.map_map]
    rfl
theorem not_comes30 {n:Nat} {tb:List (List Int)} (w:Wt' n tb) (hc:comesB n tb=false) (V:PV) (st:Store):F_need_pool [tabV tb,V] st=.exc ⟨"NoTable",none⟩ st:=by
  have h1:=does_ok w st
  rw [hc] at h1
  have h2:F_need_comes_about [tabV tb] st=.exc ⟨"NoTable",none⟩ st:=by
    generalize tabV tb=T at *
    simp -implicitDefEqProofs [F_need_comes_about,callF,m_need_comes_about,h1,finX]
  generalize tabV tb=T at *
  simp -implicitDefEqProofs [F_need_pool,callF,m_need_pool,h2,finX]
theorem not_pool30 {n:Nat} {tb:List (List Int)} (w:Wt' n tb) (hc:comesB n tb=true) {js:List Int} (hl:js.length<=1000) (hp:poolB n js=false) (st:Store):F_need_pool [tabV tb,rowV js] st=.exc ⟨"NoHouse",none⟩ st:=by
  have h1:=does_ok w st
  rw [hc] at h1
  have h2:F_need_comes_about [tabV tb] st=.ok .non st:=by
    generalize tabV tb=T at *
    simp -implicitDefEqProofs [F_need_comes_about,callF,m_need_comes_about,h1]
  have h3:=is_pool30 w.len hl st
  rw [hp] at h3
  generalize tabV tb=T at *
  generalize rowV js=J at *
  simp -implicitDefEqProofs [F_need_pool,callF,m_need_pool,h2,h3,finX]
theorem told_exc {V P W:PV} {d k:Int} {st:Store} {x:Exc} (h:F_need_pool [V,P] st=.exc ⟨x.cls,none⟩ st):F__law_b_asked [.int d,V,P,.int k,W] st=.exc ⟨x.cls,none⟩ st:=by
  have e1:F_least_stock [V,P] st=.exc ⟨x.cls,none⟩ st:=by
    simp -implicitDefEqProofs [F_least_stock,callF,m_least_stock,h,finX]
  have e2:F_may_use [V,P,.int k] st=.exc ⟨x.cls,none⟩ st:=by
    simp -implicitDefEqProofs [F_may_use,callF,m_may_use,h,finX]
  have e3:F_is_world [V,P,W] st=.exc ⟨x.cls,none⟩ st:=by
    simp -implicitDefEqProofs [F_is_world,callF,m_is_world,h,finX]
  have e4:F_shows_must [V,P,.int k,W] st=.exc ⟨x.cls,none⟩ st:=by
    simp -implicitDefEqProofs [F_shows_must,callF,m_shows_must,e3,finX]
  by_cases a:d=0
  · subst a
    simp -implicitDefEqProofs [F__law_b_asked,callF,m__law_b_asked,e1,finX]
  · by_cases b:d=1
    · subst b
      simp -implicitDefEqProofs [F__law_b_asked,callF,m__law_b_asked,e2,finX]
    · by_cases c:d=2
      · subst c
        simp -implicitDefEqProofs [F__law_b_asked,callF,m__law_b_asked,e3,finX]
      · simp -implicitDefEqProofs [F__law_b_asked,callF,m__law_b_asked,a,b,c,e4,finX]
theorem told_table {n:Nat} {tb:List (List Int)} (w:Wt' n tb) (hc:comesB n tb=false) (P W:PV) (d k:Int) (st:Store):F__law_b_told [.int d,tabV tb,P,.int k,W] st=.ok (.str "table") st:=by
  have h2:=told_exc (x:=⟨"NoTable",none⟩) (W:=W) (d:=d) (k:=k) (not_comes30 w hc P st)
  unfold F__law_b_told
  rw [h2]
  simp
theorem told_house {n:Nat} {tb:List (List Int)} (w:Wt' n tb) (hc:comesB n tb=true) {js:List Int} (hl:js.length<=1000) (hp:poolB n js=false) (W:PV) (d k:Int) (st:Store):F__law_b_told [.int d,tabV tb,rowV js,.int k,W] st=.ok (.str "house") st:=by
  have h2:=told_exc (x:=⟨"NoHouse",none⟩) (W:=W) (d:=d) (k:=k) (not_pool30 w hc hl hp st)
  unfold F__law_b_told
  rw [h2]
  dsimp only
  rw [if_neg (by decide),if_pos rfl]
theorem Ca.of_reach {n:Nat} {tb:List (List Int)} (nn:∀ h,h < n->0<=rightsF tb h) (r:reachF n tb=true):Ca n tb:=by
  refine ⟨nn,fun h hh hb=>?_⟩
  unfold reachF at r
  have:=List.all_eq_true.mp r h (List.mem_range.mpr hh)
  rw [hb,Bool.not_true,Bool.or_false] at this
  exact (known_rc n tb hh).mp this
theorem told_told {n m:Nat} {tb t2:List (List Int)} (w:Wt' n tb) (w2:Wt' m t2) (hc:comesB n tb=true) {js:List Int} (hp:poolB n js=true) (d k:Int) (st:Store):F__law_b_told [.int d,tabV tb,rowV js,.int k,tabV t2] st=.ok (.str "told") st:=by
  obtain ⟨pl,p,e⟩:=poolB_ok w.n8 hp
  rw [e]
  have h1:=need_pool_ok w hc p st
  have h2:=rights_of_ok w p st
  have c:Ca n tb:=by
    unfold comesB at hc
    rw [Bool.and_eq_true] at hc
    exact Ca.of_reach (fun h hh=>by have:=List.all_eq_true.mp hc.1 h (List.mem_range.mpr hh); simpa using this) hc.2
  have h3:∃ v,good 12 v=true/\F_least_stock [tabV tb,poolV pl] st=.ok v st:=⟨.int (poolS tb pl),rfl,by
    generalize tabV tb=T at *
    generalize poolV pl=J at *
    simp -implicitDefEqProofs [F_least_stock,callF,m_least_stock,h1,h2]⟩
  have h4:∃ v,good 12 v=true/\F_may_use [tabV tb,poolV pl,.int k] st=.ok v st:=by
    obtain ⟨a,b⟩:=may_ok w c p k st
    by_cases q:k<=poolS tb pl
    · exact ⟨_,rfl,a q⟩
    · obtain ⟨W,_,e⟩:=b q
      exact ⟨_,by simp [good,tabV,rowV],e⟩
  have h5:=is_world_ok w w2 hc p st
  have h6:∃ v,good 12 v=true/\F_shows_must [tabV tb,poolV pl,.int k,tabV t2] st=.ok v st:=by
    have h7:=stock_ok w2.sz (Nat.le_trans w2.n8 (by decide)) st
    generalize worldF n m tb pl t2=b at *
    generalize tabV tb=T at *
    generalize tabV t2=T2 at *
    generalize poolV pl=J at *
    cases b with
    | false=>exact ⟨.bl false,rfl,by simp -implicitDefEqProofs [F_shows_must,callF,m_shows_must,h5,h7]⟩
    | true=>exact ⟨.bl (decide (stockF m t2 < k)),rfl,by simp -implicitDefEqProofs [F_shows_must,callF,m_shows_must,h5,h7]⟩
  obtain ⟨v3,g3,h3⟩:=h3
  obtain ⟨v4,g4,h4⟩:=h4
  obtain ⟨v6,g6,h6⟩:=h6
  have h9:∃ v,F__law_b_asked [.int d,tabV tb,poolV pl,.int k,tabV t2] st=.ok v st:=by
    generalize worldF n m tb pl t2=b at *
    generalize tabV tb=T at *
    generalize tabV t2=T2 at *
    generalize poolV pl=J at *
    by_cases a:d=0
    · subst a
      exact ⟨v3,by simp -implicitDefEqProofs [F__law_b_asked,callF,m__law_b_asked,h3,fin_good g3]⟩
    · by_cases b1:d=1
      · subst b1
        exact ⟨v4,by simp -implicitDefEqProofs [F__law_b_asked,callF,m__law_b_asked,h4,fin_good g4]⟩
      · by_cases c1:d=2
        · subst c1
          exact ⟨.bl b,by simp -implicitDefEqProofs [F__law_b_asked,callF,m__law_b_asked,h5]⟩
        · exact ⟨v6,by simp -implicitDefEqProofs [F__law_b_asked,callF,m__law_b_asked,a,b1,c1,h6,fin_good g6]⟩
  obtain ⟨v,h9⟩:=h9
  unfold F__law_b_told
  rw [h9]
def bads (n:Nat) (js:List Int) (a z y:Int):List (List Int):=[[],js ++ [a],js ++ [(n:Int)],(-1) :: js,js ++ [(n:Int) + y],(-1 - y) :: js,js.reverse ++ [z],((List.range n).map fun k:Nat=>(k:Int)) ++ [0],(List.range n).map fun k:Nat=>(n:Int) - 1 - (k:Int)]
theorem nopool_ok {n:Nat} (h8:n<=8) {js:List Int} (hne:js ≠ []) (hl:js.length<=8) (d:Int) (st:Store):∃ js':List Int,js'.length<=1000/\F__law_b_no_pool [rowV js,.int n,.int d] st=.ok (rowV js') st:=by
  obtain ⟨a,rs,rfl⟩:∃ a rs,js=a :: rs:=List.exists_cons_of_ne_nil hne
  obtain ⟨fr,z,ez⟩:∃ fr z,a :: rs=fr ++ [z]:=⟨(a :: rs).dropLast,(a :: rs).getLast (by simp),(List.dropLast_concat_getLast (by simp)).symm⟩
  have ha:oIx st (rowV (a :: rs)) (.int 0)=.ok (.int a) st:=by
    have:((a :: rs).map PV.int)[0]?=some (.int a):=rfl
    have:=Sm.atI_get this
    rw [show ((0:Nat):Int)=0 from rfl] at this
    unfold rowV
    rw [oIx_tup,this]; rfl
  have hz:oIx st (rowV (a :: rs)) (.int (-1))=.ok (.int z) st:=by
    have:=L2.atI_last (fr.map PV.int) (.int z)
    unfold rowV
    rw [oIx_tup,ez,List.map_append]
    rw [show [z].map PV.int=[PV.int z] from rfl,this]; rfl
  obtain ⟨y,hy⟩:∃ y,d / 64 % 100000000000000000000=y:=⟨_,rfl⟩
  have hm:=emod_lt d (b:=9) (by decide)
  obtain ⟨i,hi,ei⟩:∃ i:Nat,i < 9/\d % 9=i:=⟨(d % 9).toNat,by omega,by omega⟩
  have hbl:(bads n (a :: rs) a z y).length=9:=rfl
  have hbi:((bads n (a :: rs) a z y).map rowV)[i]?=some (rowV ((bads n (a :: rs) a z y).getD i [])):=by
    rw [List.getElem?_map,getD_some (by rw [hbl]; exact hi) []]; rfl
  have hb2:=Sm.atI_get hbi
  have hix:oIx st (.lst ((bads n (a :: rs) a z y).map rowV)) (.int i)=.ok (rowV ((bads n (a :: rs) a z y).getD i [])) st:=by
    rw [oIx_lst,hb2]; rfl
  have hc:∀ g3 g4,compG (gaName 0) mTrue e__law_b_no_pool_1 [] (capG [none,some 1] [some (rowV (a :: rs)),some (.int n),some (.int d),g3,g4]) (rangeI 0 n) st=.ok ((List.range n).map fun k:Nat=>.int ((n:Int) - 1 - (k:Int))) st:=fun g3 g4=>by
    rw [rangeI0]
    refine compG_on _ _ (by simp) fun h hh=>⟨_,rfl,?_⟩
    simp [capG,e__law_b_no_pool_1]
  have hn1:-1000000<=(n:Int)/\(n:Int)<=1000000:=by omega
  have hn2:0<=(n:Int)/\(n:Int)<=1000000:=by omega
  have hl1:(rs.map PV.int).length + 1 + 1<=1000000:=by rw [List.length_map]; simp at hl; omega
  have hl1b:1 + ((rs.map PV.int).length + 1)<=1000000:=by omega
  refine ⟨(bads n (a :: rs) a z y).getD i [],?_,?_⟩
  · have key:∀ x ∈ bads n (a :: rs) a z y,x.length<=1000:=by
      intro x hx
      simp only [bads,List.mem_cons,List.not_mem_nil,or_false] at hx
      have hl:rs.length + 1<=8:=by simpa using hl
      rcases hx with rfl | rfl | rfl | rfl | rfl | rfl | rfl | rfl | rfl <;> simp <;> omega
    refine key _ ?_
    have:=getD_some (show i < (bads n (a :: rs) a z y).length by rw [hbl]; exact hi) []
    exact List.mem_of_getElem? this
  · have hf:fin st (rowV ((bads n (a :: rs) a z y).getD i [])) st=.ok (rowV ((bads n (a :: rs) a z y).getD i [])) st:=fin_good (by simp [good,rowV])
    have s3:mSet 3 (mOp oMod (mOp oDiv (mVar 2) (mC (.int 64))) (mOp oPow (mC (.int 10)) (mC (.int 20)))) [some (rowV (a :: rs)),some (.int n),some (.int d),none,none] st=.nx [some (rowV (a :: rs)),some (.int n),some (.int d),some (.int y),none] st:=by
      generalize rowV (a :: rs)=J at *
      simp -implicitDefEqProofs [hy]
    have e0:rowV (a :: rs)=.tup (.int a :: rs.map .int):=rfl
    have l1:(bads n (a :: rs) a z y).map rowV=[.tup [],.tup ((.int a :: rs.map PV.int) ++ [.int a]),.tup ((.int a :: rs.map PV.int) ++ [.int n]),.tup (.int (-1) :: .int a :: rs.map PV.int),.tup ((.int a :: rs.map PV.int) ++ [.int ((n:Int) + y)]),.tup (.int (-1 - y) :: .int a :: rs.map PV.int)] ++ [.tup ((.int a :: rs.map PV.int).reverse ++ [.int z]),.tup (((List.range n).map fun k:Nat=>PV.int (k:Int)) ++ [.int 0]),.tup ((List.range n).map fun k:Nat=>PV.int ((n:Int) - 1 - (k:Int)))]:=by
      simp [bads,rowV,List.map_append,List.map_reverse,List.map_map,Function.comp_def]
    have s4:mSet 4 (mLst (mCons (mTup mNil) (mCons (mOp oAdd (mVar 0) (mTup (mCons (mOp oIx (mVar 0) (mC (.int 0))) mNil))) (mCons (mOp oAdd (mVar 0) (mTup (mCons (mVar 1) mNil))) (mCons (mOp oAdd (mTup (mCons (mNeg (mC (.int 1))) mNil)) (mVar 0)) (mCons (mOp oAdd (mVar 0) (mTup (mCons (mOp oAdd (mVar 1) (mVar 3)) mNil))) (mCons (mOp oAdd (mTup (mCons (mOp (oI fun a b=>.int (a - b)) (mNeg (mC (.int 1))) (mVar 3)) mNil)) (mVar 0)) mNil))))))) [some (rowV (a :: rs)),some (.int n),some (.int d),some (.int y),none] st=.nx [some (rowV (a :: rs)),some (.int n),some (.int d),some (.int y),some (.lst [.tup [],.tup ((.int a :: rs.map PV.int) ++ [.int a]),.tup ((.int a :: rs.map PV.int) ++ [.int n]),.tup (.int (-1) :: .int a :: rs.map PV.int),.tup ((.int a :: rs.map PV.int) ++ [.int ((n:Int) + y)]),.tup (.int (-1 - y) :: .int a :: rs.map PV.int)])] st:=by
      rw [e0] at ha ⊢
      generalize rs.map PV.int=rv at *
      simp -implicitDefEqProofs [ha,lim_eq,hl1,hl1b,-oIx_tup]
    unfold F__law_b_no_pool callF m__law_b_no_pool
    rw [show (([rowV (a :: rs),.int n,.int d]:List PV).map some ++ List.replicate (5 - [rowV (a :: rs),PV.int n,PV.int d].length) none)=[some (rowV (a :: rs)),some (.int n),some (.int d),none,none] from rfl,mSeqS_eq,s3]
    dsimp only
    rw [mSeqS_eq,s4]
    dsimp only
    rw [l1] at hix
    have hl2:((List.range n).map fun k:Nat=>PV.int (k:Int)).length + 1<=1000000:=by simp; omega
    have hl3:((List.range n).map fun k:Nat=>PV.int ((n:Int) - 1 - (k:Int))).length<=1000000:=by simp; omega
    have hr2:((List.range (n:Int).toNat).map fun k:Nat=>PV.int (k:Int))=(List.range n).map fun k:Nat=>PV.int (k:Int):=by simp
    generalize ((bads n (a :: rs) a z y).getD i [])=res at *
    have h6:([PV.tup [],.tup ((.int a :: rs.map PV.int) ++ [.int a]),.tup ((.int a :: rs.map PV.int) ++ [.int n]),.tup (.int (-1) :: .int a :: rs.map PV.int),.tup ((.int a :: rs.map PV.int) ++ [.int ((n:Int) + y)]),.tup (.int (-1 - y) :: .int a :: rs.map PV.int)]:List PV).length=6:=rfl
    generalize ([PV.tup [],.tup ((.int a :: rs.map PV.int) ++ [.int a]),.tup ((.int a :: rs.map PV.int) ++ [.int n]),.tup (.int (-1) :: .int a :: rs.map PV.int),.tup ((.int a :: rs.map PV.int) ++ [.int ((n:Int) + y)]),.tup (.int (-1 - y) :: .int a :: rs.map PV.int)]:List PV)=F6 at *
    have s5:mSet 4 (mOp oAdd (mVar 4) (mLst (mCons (mOp oAdd (mRevT (mVar 0) (mNeg (mC (.int 1)))) (mTup (mCons (mOp oIx (mVar 0) (mNeg (mC (.int 1)))) mNil))) (mCons (mOp oAdd (mTR (mVar 1)) (mTup (mCons (mC (.int 0)) mNil))) (mCons (mCall cTuple (mCons (mVal (mCompN [none,some 1] (gaName 0) (mRange1 (mCons (mVar 1) mNil)) mTrue e__law_b_no_pool_1)) mNil)) mNil))))) [some (rowV (a :: rs)),some (.int n),some (.int d),some (.int y),some (.lst F6)] st=.nx [some (rowV (a :: rs)),some (.int n),some (.int d),some (.int y),some (.lst (F6 ++ [.tup ((.int a :: rs.map PV.int).reverse ++ [.int z]),.tup (((List.range n).map fun k:Nat=>PV.int (k:Int)) ++ [.int 0]),.tup ((List.range n).map fun k:Nat=>PV.int ((n:Int) - 1 - (k:Int)))]))] st:=by
      have hc':=hc (some (.int y)) (some (.lst F6))
      generalize ((List.range n).map fun k:Nat=>PV.int ((n:Int) - 1 - (k:Int)))=r2 at *
      have hn9:n<=999999:=by omega
      have hlr:((PV.int a :: rs.map PV.int).reverse).length + 1<=1000000:=by rw [List.length_reverse]; simpa using hl1
      have hrv:rowV (a :: rs)=.tup (.int a :: rs.map PV.int):=rfl
      have e7:(mRevT (mVar 0) (mNeg (mC (.int 1)))) [some (rowV (a :: rs)),some (.int n),some (.int d),some (.int y),some (.lst F6)] st=.ok (.tup ((.int a :: rs.map PV.int).reverse)) st:=by
        rw [hrv]
        generalize rs.map PV.int=rv
        simp -implicitDefEqProofs
      generalize (PV.int a :: rs.map PV.int).reverse=rv2 at *
      have hadd:∀ x1 x2 x3:PV,oAdd st (.lst F6) (.lst [x1,x2,x3])=.ok (.lst (F6 ++ [x1,x2,x3])) st:=fun x1 x2 x3=>by
        show (if F6.length + [x1,x2,x3].length<=lim then _ else _)=_
        rw [if_pos (by rw [h6,lim_eq]; simp)]
      generalize rowV (a :: rs)=J at *
      simp -implicitDefEqProofs [e7,hz,lim_eq,hlr,hl2,hl3,hn1,hn2,hn9,hc',h6,hadd,-oIx_tup,-oIx_lst,-mRevT_eq]
    rw [mSeqS_eq,s5]
    dsimp only
    generalize (F6 ++ [.tup ((.int a :: rs.map PV.int).reverse ++ [.int z]),.tup (((List.range n).map fun k:Nat=>PV.int (k:Int)) ++ [.int 0]),.tup ((List.range n).map fun k:Nat=>PV.int ((n:Int) - 1 - (k:Int)))])=L9 at *
    generalize rowV (a :: rs)=J at *
    simp -implicitDefEqProofs [ei,hix,hf,-oIx_tup,-oIx_lst]
theorem lpool_ok {n:Nat} {js:List Int} (hl:js.length<=1000) (st:Store):F__law_b_is_pool [rowV js,.int n] st=.ok (.bl (poolB n js)) st:=by
  cases hj:js with
  | nil=>
    have hq:oEq st (.tup []) (.tup [])=.ok (.bl true) st:=by simp [oEq,der,good,dep,peq,peqL]
    simp -implicitDefEqProofs [F__law_b_is_pool,callF,m__law_b_is_pool,rowV,poolB,hq]
  | cons a rs=>
    rw [<- hj]
    have hne:oEq st (rowV js) (.tup [])=.ok (.bl false) st:=by rw [hj]; simp [rowV,oEq,der,good,dep,peq,peqL]
    let Pd:Nat->Bool:=fun k=>decide (0<=js.getD k 0) && decide (js.getD k 0 < (n:Int)) && (decide (k=0) || decide (js.getD (k - 1) 0 < js.getD k 0))
    have hP:(List.range js.length).all Pd=poolB n js:=by
      rw [Bool.eq_iff_iff]
      unfold poolB hsIn
      rw [Bool.and_eq_true,Bool.and_eq_true,List.all_eq_true,List.all_eq_true,riseF_iff]
      have g:∀ k (hk:k < js.length),js.getD k 0=js[k]:=fun k hk=>by simp [List.getD,hk]
      constructor
      · intro h
        refine ⟨by rw [hj]; rfl,fun i hi=>?_,fun k hk=>?_⟩
        · obtain ⟨k,hk,rfl⟩:=List.mem_iff_getElem.mp hi
          have:=h k (List.mem_range.mpr hk)
          rw [<- g k hk]
          simp only [Pd,Bool.and_eq_true] at this
          rw [Bool.and_eq_true]
          exact this.1
        · have:=h (k + 1) (List.mem_range.mpr hk)
          simp only [Pd,Bool.and_eq_true,Bool.or_eq_true,decide_eq_true_eq,Nat.add_sub_cancel] at this
          rcases this.2 with z | z
          · omega
          · exact z
      · rintro ⟨_,h2,h3⟩ k hk
        have hk:=List.mem_range.mp hk
        have a:=h2 _ (List.getElem_mem hk)
        rw [<- g k hk,Bool.and_eq_true] at a
        simp only [Pd,Bool.and_eq_true,Bool.or_eq_true,decide_eq_true_eq]
        refine ⟨⟨by simpa using a.1,by simpa using a.2⟩,?_⟩
        cases k with
        | zero=>exact .inl rfl
        | succ k=>exact .inr (h3 k hk)
    have hix:∀ k,k < js.length->oIx st (rowV js) (.int k)=.ok (.int (js.getD k 0)) st:=fun k hk=>by
      have:(js.map PV.int)[k]?=some (.int (js.getD k 0)):=by rw [List.getElem?_map,getD_some hk 0]; rfl
      unfold rowV
      rw [oIx_tup,Sm.atI_get this]; rfl
    have hs:=forG_search (fun k:Nat=>PV.int (k:Int)) (fun Γ=>∃ g2,Γ=[some (rowV js),some (.int n),g2]) Pd (.bl false) (ga:=gaName 2) (body:=b__law_b_is_pool_1) (w:=[]) (st:=st) (by simp) (xs:=List.range js.length) (fun k hk Γ hJ=>by
      obtain ⟨g2,rfl⟩:=hJ
      have hk:=List.mem_range.mp hk
      have c1:=hix k hk
      refine ⟨_,rfl,fun hp=>⟨[some (rowV js),some (.int n),some (.int k)],⟨_,rfl⟩,?_⟩,fun hp=>?_⟩
      · simp only [Pd,Bool.and_eq_true,Bool.or_eq_true,decide_eq_true_eq] at hp
        obtain ⟨⟨p1,p2⟩,p3⟩:=hp
        have q1:¬ js.getD k 0 < 0:=by omega
        have q2:¬ (n:Int)<=js.getD k 0:=by omega
        by_cases hk0:k=0
        · subst hk0
          rw [show ((0:Nat):Int)=0 from rfl] at c1 ⊢
          generalize js.getD 0 0=x at *
          generalize rowV js=J at *
          simp -implicitDefEqProofs [b__law_b_is_pool_1,c1,q1,q2]
        · have c2:=hix (k - 1) (by omega)
          rw [show ((k - 1:Nat):Int)=(k:Int) - 1 by omega] at c2
          have q3:¬ js.getD k 0<=js.getD (k - 1) 0:=by rcases p3 with z | z <;> omega
          have q4:0 < k:=by omega
          generalize js.getD (k - 1) 0=x' at *
          generalize js.getD k 0=x at *
          generalize rowV js=J at *
          simp -implicitDefEqProofs [b__law_b_is_pool_1,c1,c2,q1,q2,q3,q4]
      · have hp':js.getD k 0 < 0\/(n:Int)<=js.getD k 0\/(k ≠ 0/\js.getD k 0<=js.getD (k - 1) 0):=by
          simp only [Pd,Bool.and_eq_false_iff,Bool.or_eq_false_iff,decide_eq_false_iff_not] at hp
          rcases hp with (z | z) | ⟨z1,z2⟩
          · exact .inl (by omega)
          · exact .inr (.inl (by omega))
          · exact .inr (.inr ⟨z1,by omega⟩)
        by_cases q1:js.getD k 0 < 0
        · generalize js.getD k 0=x at *
          generalize rowV js=J at *
          simp -implicitDefEqProofs [b__law_b_is_pool_1,c1,q1]
        · by_cases q2:(n:Int)<=js.getD k 0
          · generalize js.getD k 0=x at *
            generalize rowV js=J at *
            simp -implicitDefEqProofs [b__law_b_is_pool_1,c1,q1,q2]
          · obtain ⟨hk0,q3⟩:k ≠ 0/\js.getD k 0<=js.getD (k - 1) 0:=by
              rcases hp' with z | z | z
              · exact absurd z q1
              · exact absurd z q2
              · exact z
            have c2:=hix (k - 1) (by omega)
            rw [show ((k - 1:Nat):Int)=(k:Int) - 1 by omega] at c2
            have q4:0 < k:=by omega
            generalize js.getD (k - 1) 0=x' at *
            generalize js.getD k 0=x at *
            generalize rowV js=J at *
            simp -implicitDefEqProofs [b__law_b_is_pool_1,c1,c2,q1,q2,q3,q4])
      [some (rowV js),some (.int n),none] ⟨_,rfl⟩
    rw [hP,<- rangeI0] at hs
    have hlen:cLen st [rowV js]=.ok (.int js.length) st:=by simp [rowV]
    have hn1:-1000000<=(js.length:Int)/\(js.length:Int)<=1000000:=by omega
    cases hb:poolB n js with
    | true=>
      obtain ⟨Γ',⟨g2,rfl⟩,e⟩:=hs.1 hb
      generalize js.length=m at *
      generalize rowV js=J at *
      simp -implicitDefEqProofs [F__law_b_is_pool,callF,m__law_b_is_pool,hne,hlen,hn1,lim_eq,e,-oEq_int]
    | false=>
      have e:=hs.2 hb
      generalize js.length=m at *
      generalize rowV js=J at *
      simp -implicitDefEqProofs [F__law_b_is_pool,callF,m__law_b_is_pool,hne,hlen,hn1,lim_eq,e,-oEq_int]
theorem trows30 (tb:List (List Int)) (Γ:Gam) (S:Store):compG (gaName 0) mTrue e__law_b_less_1 [] (capG [none] Γ) (tb.map rowV) S=.ok ((List.range tb.length).map fun k=>.ref (S.length + k)) (S ++ tb.map fun r=>Cell.lst (r.map .int)):=by
  obtain ⟨out,st',e,rfl,rfl⟩:=compG_inv (g:=rowV) (xs:=tb) (ga:=gaName 0) (me:=e__law_b_less_1) (w:=[]) (Γ0:=capG [none] Γ) (st:=S)
    (fun i out st'=>out=(List.range i).map (fun k=>PV.ref (S.length + k))/\st'=S ++ (tb.take i).map fun r=>Cell.lst (r.map .int))
    (fun i out st' _=>by simp)
    (fun i r out st' hr ⟨e1,e2⟩=>by
      subst e1; subst e2
      have hil:=(List.getElem?_eq_some_iff.mp hr).1
      have hlen:(S ++ (tb.take i).map fun r=>Cell.lst (r.map .int)).length=S.length + i:=by
        rw [List.length_append,List.length_map,List.length_take,Nat.min_eq_left (by omega)]
      have e3:tb.take (i + 1)=tb.take i ++ [r]:=by
        rw [List.take_add_one,hr]; rfl
      refine ⟨_,rfl,.ref (S.length + i),S ++ (tb.take (i + 1)).map fun r=>Cell.lst (r.map .int),?_,?_,rfl⟩
      · rw [e3,List.map_append,<- List.append_assoc,<- hlen]
        generalize S ++ (tb.take i).map (fun r=>Cell.lst (r.map .int))=T
        simp -implicitDefEqProofs [capG,e__law_b_less_1,rowV]
      · rw [List.range_succ,List.map_append]; rfl)
    ⟨rfl,by simp⟩
  rw [e,List.take_length]
theorem fin_any {v:PV} (g:good 12 v=true) (st S:Store):∃ st',fin st v S=.ok v st':=by
  by_cases h:st <+: S
  · obtain ⟨m,rfl⟩:=h
    exact ⟨st,fin_goodA g⟩
  · exact ⟨S,by unfold fin; rw [if_neg h]⟩
abbrev lsΓ (T:PV) (p:Nat) (x:Int) (b3 b4:Option PV):Gam:=[some T,some (.ref p),some (.int x),b3,b4]
theorem less_cell {n p q i j:Nat} {S:Store} {tb:List (List Int)} (R:RowsAt n S p q tb) (w:Wt' n tb) (hi:i < n) (hj:j<=n) (T:PV) (x:Int):∃ S' tb' x',RowsAt n S' p q tb'/\Wt' n tb'/\b__law_b_less_2 (lsΓ T p x (some (.int i)) (some (.int j))) S=.nx (lsΓ T p x' (some (.int i)) (some (.int j))) S':=by
  have c1:=R.ix hi
  have c2:=R.cell w.sz hi hj
  by_cases q1:0 < ent tb i j
  · by_cases q2:0 < x
    · obtain ⟨S2,R2,w2,f2,e2⟩:=put_okE R w (x:=ent tb i j - 1) (by omega) hi hj (mVar 1) (mVar 3) (mVar 4) (mOp (oI fun a b=>.int (a - b)) (mOp oIx (mOp oIx (mVar 1) (mVar 3)) (mVar 4)) (mC (.int 1))) (lsΓ T p x (some (.int i)) (some (.int j))) (by
        unfold lsΓ
        simp -implicitDefEqProofs [c1,c2,-oIx_r]) rfl rfl rfl
      refine ⟨S2,_,0,R2,w2,?_⟩
      have ht:(tAndM (toB (mOp (oI fun a b=>.bl (decide (b < a))) (mOp oIx (mOp oIx (mVar 1) (mVar 3)) (mVar 4)) (mC (.int 0)))) (toB (mOp (oI fun a b=>.bl (decide (b < a))) (mVar 2) (mC (.int 0))))) (lsΓ T p x (some (.int i)) (some (.int j))) S=.ok true S:=by
        unfold lsΓ
        simp -implicitDefEqProofs [c1,c2,q1,q2,-oIx_r]
      unfold b__law_b_less_2
      rw [mIfS_eq,ht,sbind_ok,if_pos rfl,mSeqS_eq,e2]
      rfl
    · refine ⟨S,tb,x,R,w,?_⟩
      unfold lsΓ
      simp -implicitDefEqProofs [b__law_b_less_2,c1,c2,q1,q2,-oIx_r]
  · refine ⟨S,tb,x,R,w,?_⟩
    unfold lsΓ
    simp -implicitDefEqProofs [b__law_b_less_2,c1,c2,q1,-oIx_r]
theorem less_row {n p q i:Nat} {S:Store} {tb:List (List Int)} (R:RowsAt n S p q tb) (w:Wt' n tb) (hi:i < n) (T:PV) (x:Int) (b4:Option PV):∃ S' tb' x' c4,RowsAt n S' p q tb'/\Wt' n tb'/\b__law_b_less_1 (lsΓ T p x (some (.int i)) b4) S=.nx (lsΓ T p x' (some (.int i)) c4) S':=by
  have h8:=w.n8
  obtain ⟨Γ',S',e,tb',x',c4,R',w',rfl⟩:=forG_inv (g:=fun k:Nat=>PV.int (k:Int)) (xs:=List.range (n + 1)) (ga:=gaName 4) (body:=b__law_b_less_2) (w:=[]) (Γ:=lsΓ T p x (some (.int i)) b4) (st:=S)
    (fun _ Γ st'=>∃ tb' x' c4,RowsAt n st' p q tb'/\Wt' n tb'/\Γ=lsΓ T p x' (some (.int i)) c4)
    (fun _ _ _ _=>by simp)
    (fun k j Γ st' hx ⟨tb',x',c4,R',w',e1⟩=>by
      subst e1
      have hj:j < n + 1:=List.mem_range.mp (List.mem_of_getElem? hx)
      obtain ⟨S2,t2,x2,R2,w2,e2⟩:=less_cell R' w' hi (show j<=n by omega) T x'
      exact ⟨_,rfl,_,S2,e2,t2,x2,_,R2,w2,rfl⟩)
    ⟨tb,x,_,R,w,rfl⟩
  rw [<- rangeI0] at e
  have hl:ListAt S (.ref p) ((List.range n).map fun k=>PV.ref (q + k)):=.inr (.inr ⟨_,rfl,R.l⟩)
  have hlen:cLen S [.ref p]=.ok (.int n) S:=by rw [hl.len]; simp
  have hn1:-1000000<=(n:Int) + 1/\(n:Int) + 1<=1000000:=by omega
  have hn3:((n:Int) + 1).toNat=n + 1:=by omega
  refine ⟨S',tb',x',c4,R',w',?_⟩
  unfold lsΓ at *
  simp -implicitDefEqProofs [b__law_b_less_1,hlen,hn1,hn3,lim_eq,e,-cLen_r]
theorem less_ok {n:Nat} {tb:List (List Int)} (w:Wt' n tb) (st:Store):∃ t' st',Wt' n t'/\F__law_b_less [tabV tb] st=.ok (tabV t') st':=by
  have h8:=w.n8
  have ht:=trows30 tb [some (tabV tb),none,none,none,none] st
  have R:=rows_mk (S:=st) (cells:=tb.map fun r=>Cell.lst (r.map .int)) (tb:=tb) (n:=n) (by rw [List.length_map,w.len]) (fun i hi=>by rw [List.getElem?_map,(w.sz.row hi).1]; rfl)
  have hcl:(tb.map fun r=>Cell.lst (r.map .int)).length=n:=by rw [List.length_map,w.len]
  rw [w.len] at ht
  obtain ⟨S0,hS0⟩:∃ S0,st ++ (tb.map fun r=>Cell.lst (r.map .int)) ++ [.lst ((List.range n).map fun k=>PV.ref (st.length + k))]=S0:=⟨_,rfl⟩
  rw [hS0] at R
  obtain ⟨Γ',S',e,tb',x',c3,c4,R',w',rfl⟩:=forG_inv (g:=fun k:Nat=>PV.int (k:Int)) (xs:=List.range n) (ga:=gaName 3) (body:=b__law_b_less_1) (w:=[]) (Γ:=lsΓ (tabV tb) (st.length + n) 1 none none) (st:=S0)
    (fun _ Γ st'=>∃ tb' x' c3 c4,RowsAt n st' (st.length + n) st.length tb'/\Wt' n tb'/\Γ=lsΓ (tabV tb) (st.length + n) x' c3 c4)
    (fun _ _ _ _=>by simp)
    (fun k i Γ st' hx ⟨tb',x',c3,c4,R',w',e1⟩=>by
      subst e1
      have hi:i < n:=List.mem_range.mp (List.mem_of_getElem? hx)
      obtain ⟨S2,t2,x2,d4,R2,w2,e2⟩:=less_row R' w' hi (tabV tb) x' c4
      exact ⟨_,rfl,_,S2,e2,t2,x2,_,_,R2,w2,rfl⟩)
    ⟨tb,1,_,_,R,w,rfl⟩
  rw [<- rangeI0] at e
  have hl:ListAt S0 (.ref (st.length + n)) ((List.range n).map fun k=>PV.ref (st.length + k)):=.inr (.inr ⟨_,rfl,R.l⟩)
  have hlen:cLen S0 [.ref (st.length + n)]=.ok (.int n) S0:=by rw [hl.len]; simp
  have hn1:-1000000<=(n:Int)/\(n:Int)<=1000000:=by omega
  have e3:=tuples_ok R' w'
  obtain ⟨st2,e4⟩:=fin_any (v:=tabV tb') (by simp [good,tabV,rowV]) st S'
  refine ⟨tb',st2,w',?_⟩
  have hsrc:srcOf st (tabV tb)=some (tb.map rowV,[]):=rfl
  have hll:(tb.map rowV).length<=1000000:=by rw [List.length_map,w.len]; omega
  rw [List.append_assoc] at hS0
  unfold lsΓ at *
  generalize (tb.map fun r=>Cell.lst (r.map .int))=cells at *
  generalize ((List.range n).map fun k=>PV.ref (st.length + k))=refs at *
  generalize tb.map rowV=tv at *
  generalize tabV tb=T at *
  generalize tabV tb'=T' at *
  simp -implicitDefEqProofs [F__law_b_less,callF,m__law_b_less,hsrc,hll,lim_eq,ht,hcl,hS0,hlen,hn1,e,e3,e4,-cLen_r]
def ownI (ns:List Int) (n a i:Nat):List Int:=(List.range (n + 1)).map fun j=>fewI (drawI ns (a + i * (n + 1) + j))
theorem ownI_len (ns:List Int) (n a i:Nat):(ownI ns n a i).length=n + 1:=by unfold ownI; simp
theorem ownI_nn (ns:List Int) (n a i:Nat):∀ x ∈ ownI ns n a i,(0:Int)<=x:=fun x hx=>by
  obtain ⟨j,_,rfl⟩:=List.mem_map.mp hx
  exact fewI_nn _
theorem own_row_ok (ns:List Int) (n a i:Nat) (st:Store) (hn:n<=8) (hi:i < n) (ha:a<=10) (Γ:Gam) (h0:Γ[0]?=some (some (.fro (ns.map .int)))) (h1:Γ[1]?=some (some (.int n))) (h2:Γ[2]?=some (some (.int a))) (h4:Γ[4]?=some (some (.int i))) :
    compG (gaName 0) mTrue e__law_b_sparse_1 [] (capG [none,some 0,some 2,some 4,some 1] Γ) (rangeI 0 (n + 1)) st=.ok ((ownI ns n a i).map .int) st:=by
  rw [rangeI0]
  unfold ownI
  rw [List.map_map]
  refine compG_on _ _ (by simp) fun j hj=>⟨_,rfl,?_⟩
  have hj':j < n + 1:=List.mem_range.mp hj
  have e:(a:Int) + i * (n + 1) + j=((a + i * (n + 1) + j:Nat):Int):=by push_cast; rfl
  have hb:-18446744073709551616 < (i:Int)/\(i:Int) < 18446744073709551616:=by omega
  have hd:=draw_ok ns (a + i * (n + 1) + j) st (by
    have:i * (n + 1)<=8 * 9:=Nat.mul_le_mul (by omega) (by omega)
    omega)
  rw [<- e] at hd
  simp -implicitDefEqProofs [capG,e__law_b_sparse_1,h0,h1,h2,h4,hb,hd]
  exact few_ok _ _
def sparI (ns:List Int) (n a:Nat):List (List Int):=(List.range n).map fun i=>ownI ns n a i
theorem sparI_wt (ns:List Int) (n a:Nat) (h1:1<=n) (h8:n<=8):Wt' n (sparI ns n a):=by
  unfold sparI
  refine ⟨by simp,fun r hr=>?_,fun r hr x hx=>?_,h1,h8⟩
  · obtain ⟨i,_,rfl⟩:=List.mem_map.mp hr
    exact ownI_len ns n a i
  · obtain ⟨i,_,rfl⟩:=List.mem_map.mp hr
    exact ownI_nn ns n a i x hx
theorem start_ok (ns:List Int) (n:Nat) (hn1:1<=n) (hn8:n<=8) (y:Nat) (hy:y<=900) (Γ:Gam) (h2:Γ[2]?=some (some (.int n))):∃ S1 tb,Wt' n tb/\Ca n tb/\compG (gaName 0) mTrue e_law_1 [] (capG [none,some 2] Γ) (rangeI 0 n) []=.ok ((List.range n).map fun k=>PV.ref (0 + k)) (List.replicate n (Cell.lst ((zRow n).map .int)))/\F__law_b_deeds [.ref n,.fro (ns.map .int),.int 2,.int y,.lst ((List.range n).map fun k:Nat=>PV.int (k:Int))] (List.replicate n (Cell.lst ((zRow n).map .int)) ++ [.lst ((List.range n).map fun k=>PV.ref (0 + k))])=.ok (.ref n) S1/\F__law_b_tuples [.ref n] S1=.ok (tabV tb) S1:=by
  have w0:=zTab_wt hn1 hn8
  have hz:=zrows_ok n hn8 Γ h2 []
  have R0:=rows_mk (S:=[]) (cells:=List.replicate n (Cell.lst ((zRow n).map .int))) (tb:=List.replicate n (zRow n)) (n:=n) (by simp) (fun i hi=>by rw [List.getElem?_replicate,if_pos hi,List.getD,List.getElem?_replicate,if_pos hi]; rfl)
  obtain ⟨S1,tb,R1,w,hca,e1⟩:=deeds_ok (ns:=ns) (hs:=List.range n) (fun z=>by have:=congrArg List.length z; rw [List.length_range] at this; simp at this; omega) (fun h hh=>List.mem_range.mp hh) R0 w0 2 y (by omega)
  have e2:=tuples_ok R1 w
  have hl0:([]:Store).length + n=n:=by simp
  rw [hl0] at e1 e2
  rw [List.nil_append] at e1 hz
  exact ⟨S1,tb,w,hca (Ca.zero hn1 hn8 w0),hz,e1,e2⟩
def lstV (r:List Int):PV:=.lst (r.map .int)
theorem sparse_ok (ns:List Int) (n:Nat) (h8:n<=8):F__law_b_sparse [.fro (ns.map .int),.int n,.int 2] []=.ok (.lst ((sparI ns n 2).map lstV)) []:=by
  have hn1:-1000000<=(n:Int)/\(n:Int)<=1000000:=by omega
  have hn2:-1000000<=(n:Int) + 1/\(n:Int) + 1<=1000000:=by omega
  obtain ⟨Γ',st',e,c',rfl,rfl⟩:=forG_inv (g:=fun k:Nat=>PV.int (k:Int)) (xs:=List.range n) (ga:=gaName 4) (body:=b__law_b_sparse_1) (w:=[]) (Γ:=[some (.fro (ns.map .int)),some (.int n),some (.int 2),some (.ref 0),none]) (st:=[.lst []])
    (fun i Γ st'=>∃ c',Γ=[some (.fro (ns.map .int)),some (.int n),some (.int 2),some (.ref 0),c']/\st'=[.lst (((List.range i).map fun i=>ownI ns n 2 i).map lstV)])
    (fun _ _ _ _=>by simp)
    (fun i x Γ st' hx ⟨c',e1,e2⟩=>by
      subst e1; subst e2
      have hin:i < n:=by simpa using (List.getElem?_eq_some_iff.mp hx).1
      have hxi:x=i:=by
        rw [List.getElem?_range hin] at hx
        exact (Option.some.inj hx).symm
      subst hxi
      refine ⟨_,rfl,[some (.fro (ns.map .int)),some (.int n),some (.int 2),some (.ref 0),some (.int x)],_,?_,_,rfl,rfl⟩
      have hro:=own_row_ok ns n 2 x [.lst (((List.range x).map fun i=>ownI ns n 2 i).map lstV)] h8 hin (by omega) [some (.fro (ns.map .int)),some (.int n),some (.int 2),some (.ref 0),some (.int x)] rfl rfl rfl rfl
      have e3:((List.range (x + 1)).map fun i=>ownI ns n 2 i).map lstV=((List.range x).map fun i=>ownI ns n 2 i).map lstV ++ [.lst ((ownI ns n 2 x).map .int)]:=by
        rw [List.range_succ,List.map_append,List.map_append]; rfl
      rw [e3]
      have hl:(((List.range x).map fun i=>ownI ns n 2 i).map lstV).length < 1000000:=by simp; omega
      generalize (ownI ns n 2 x).map PV.int=ys at *
      generalize ((List.range x).map fun i=>ownI ns n 2 i).map lstV=rs at *
      simp -implicitDefEqProofs [b__law_b_sparse_1,lim_eq,hn2,hro,mtAppend,chg,hl])
    ⟨none,rfl,rfl⟩
  rw [List.length_range] at e
  rw [<- rangeI0] at e
  unfold sparI
  have hg:good 12 (.lst (((List.range n).map fun i=>ownI ns n 2 i).map lstV))=true:=by simp [good,lstV]
  generalize ((List.range n).map fun i=>ownI ns n 2 i).map lstV=rs at *
  have hfz:fz 0 [Cell.lst rs] 16 (.ref 0)=some (.lst rs):=by
    have:=fz_good (n:=0) (st:=[Cell.lst rs]) (k:=16) hg (by decide)
    rw [fz,if_neg (by omega)]
    simpa [fz] using this
  simp -implicitDefEqProofs [F__law_b_sparse,callF,m__law_b_sparse,lim_eq,hn1,e,fin,hfz]
theorem bareWt {m:Nat} (h1:1<=m) (h8:m<=8):Wt' m (List.replicate m (List.replicate (m + 1) 0)):=by
  refine ⟨by simp,fun r hr=>?_,fun r hr x hx=>?_,h1,h8⟩
  · rw [List.eq_of_mem_replicate hr]; simp
  · rw [List.eq_of_mem_replicate hr] at hx
    rw [List.eq_of_mem_replicate hx]
    exact Int.le_refl _
theorem tuples_lst {n:Nat} {tb:List (List Int)} (w:Wt' n tb) (S:Store):F__law_b_tuples [.lst (tb.map lstV)] S=.ok (tabV tb) S:=by
  have h8:=w.n8
  have hc1:compG (gaName 0) mTrue e__law_b_tuples_1 [] (capG [none] [some (.lst (tb.map lstV))]) (tb.map lstV) S=.ok (tb.map rowV) S:=by
    refine compG_on _ _ (by simp) fun r hr=>⟨_,rfl,?_⟩
    simp -implicitDefEqProofs [capG,e__law_b_tuples_1,lstV]
    rfl
  have htl:(tb.map lstV).length<=1000000:=by rw [List.length_map,w.len]; omega
  have hT:PV.tup (tb.map rowV)=tabV tb:=rfl
  have hf:fin S (tabV tb) S=.ok (tabV tb) S:=fin_good (by simp [good,tabV,rowV])
  generalize tb.map rowV=tv at *
  generalize tb.map lstV=lv at *
  simp -implicitDefEqProofs [F__law_b_tuples,callF,m__law_b_tuples,htl,lim_eq,hc1,hT,hf]
abbrev lw30 (ns:List Int) (d:Int) (n:Nat) (b3:Option PV) (tb:List (List Int)) (c:Bool) (k:Int) (ws:List (List (List Int))) (b8 b9 b10 b11 b12 b13 b14:Option PV):Gam:=[some (.fro (ns.map .int)),some (.int d),some (.int n),b3,some (tabV tb),some (.bl c),some (.int k),some (.lst (ws.map tabV)),b8,b9,b10,b11,b12,b13,b14]
def due30 (n:Nat) (c:Bool) (js:List Int):Str:=if c=true then (if poolB n js=true then "told" else "house") else "table"
theorem told30 {n m:Nat} {tb t2:List (List Int)} (w:Wt' n tb) (w2:Wt' m t2) {js:List Int} (hl:js.length<=1000) (d k:Int) (st:Store):F__law_b_told [.int d,tabV tb,rowV js,.int k,tabV t2] st=.ok (.str (due30 n (comesB n tb) js)) st:=by
  unfold due30
  cases hc:comesB n tb with
  | false=>exact told_table w hc (rowV js) (tabV t2) d k st
  | true=>
    rw [if_pos rfl]
    cases hp:poolB n js with
    | false=>exact told_house w hc hl hp (tabV t2) d k st
    | true=>exact told_told w w2 hc hp d k st
theorem due30_set {n:Nat} {js:List Int} (hl:js.length<=1000) (c:Bool) (ns:List Int) (d:Int) (b3:Option PV) (tb:List (List Int)) (k:Int) (ws:List (List (List Int))) (b8 b9 b10 b11 b13 b14:Option PV) (S:Store) (X:MS) :
    (mSeqS (mSet 13 (mIf (toB (mCallF 2 F__law_b_is_pool (mCons (mVar 12) (mCons (mVar 2) mNil)))) (mC (.str "told")) (mC (.str "house"))))
    (mSeqS (mIfS (tNotM (toB (mVar 5))) (mSet 13 (mC (.str "table"))) mNext) X)) (lw30 ns d n b3 tb c k ws b8 b9 b10 b11 (some (rowV js)) b13 b14) S=X (lw30 ns d n b3 tb c k ws b8 b9 b10 b11 (some (rowV js)) (some (.str (due30 n c js))) b14) S:=by
  have h1:=lpool_ok (n:=n) hl S
  unfold lw30 due30
  generalize poolB n js=b at *
  generalize rowV js=J at *
  generalize ns.map PV.int=nv at *
  generalize tabV tb=T at *
  generalize ws.map tabV=wv at *
  cases c <;> cases b <;> simp -implicitDefEqProofs [h1]
theorem pool_turn30 {n:Nat} {js:List Int} (hl:js.length<=1000) (ns:List Int) (d:Int) (b3:Option PV) {tb:List (List Int)} (w:Wt' n tb) (k:Int) {ws:List (List (List Int))} (hwl:ws.length=4) (hws:∀ t ∈ ws,∃ m,Wt' m t) (x:Int) (b8 b10 b11 b13 b14:Option PV) (S:Store) :
    ∃ c13 c14,b_law_2 (lw30 ns d n b3 tb (comesB n tb) k ws b8 (some (.int x)) b10 b11 (some (rowV js)) b13 b14) S=.nx (lw30 ns d n b3 tb (comesB n tb) k ws b8 (some (.int x)) b10 b11 (some (rowV js)) c13 c14) S:=by
  have hm:=emod_lt (x / 5) (b:=4) (by decide)
  obtain ⟨i,hi,ei⟩:∃ i:Nat,i < 4/\x / 5 % 4=i:=⟨(x / 5 % 4).toNat,by omega,by omega⟩
  have hg:=getD_some (show i < ws.length by omega) []
  obtain ⟨m,w2⟩:=hws _ (List.mem_of_getElem? hg)
  have hix:oIx S (.lst (ws.map tabV)) (.int i)=.ok (tabV (ws.getD i [])) S:=by
    have:(ws.map tabV)[i]?=some (tabV (ws.getD i [])):=by rw [List.getElem?_map,hg]; rfl
    rw [oIx_lst,Sm.atI_get this]; rfl
  have ht:=fun dd:Int=>told30 w w2 hl dd k S
  have hne:∀ s:Str,oNe S (.str s) (.str s)=.ok (.bl false) S:=fun s=>by simp
  obtain ⟨Γ',S1,e,c14,rfl,hS⟩:=forG_inv (g:=fun k:Nat=>PV.int (k:Int)) (xs:=List.range 4) (ga:=gaName 14) (body:=b_law_3) (w:=[]) (Γ:=lw30 ns d n b3 tb (comesB n tb) k ws b8 (some (.int x)) b10 b11 (some (rowV js)) (some (.str (due30 n (comesB n tb) js))) b14) (st:=S)
    (fun _ Γ st'=>∃ c14,Γ=lw30 ns d n b3 tb (comesB n tb) k ws b8 (some (.int x)) b10 b11 (some (rowV js)) (some (.str (due30 n (comesB n tb) js))) c14/\st'=S)
    (fun _ _ _ _=>by simp)
    (fun q z Γ st' hz ⟨c14,e1,e2⟩=>by
      subst e1; subst e2
      refine ⟨_,rfl,lw30 ns d n b3 tb (comesB n tb) k ws b8 (some (.int x)) b10 b11 (some (rowV js)) (some (.str (due30 n (comesB n tb) js))) (some (.int z)),st',?_,_,rfl,rfl⟩
      have h1:=ht z
      have h2:=hne (due30 n (comesB n tb) js)
      unfold lw30
      generalize due30 n (comesB n tb) js=s at *
      generalize comesB n tb=c at *
      generalize rowV js=J at *
      generalize tabV (ws.getD i [])=T2 at *
      generalize ns.map PV.int=nv at *
      generalize tabV tb=T at *
      generalize ws.map tabV=wv at *
      simp -implicitDefEqProofs [b_law_3,ei,hix,h1,h2,-oIx_lst,-oNe_str])
    ⟨_,rfl,rfl⟩
  rw [<- rangeI0] at e
  subst hS
  refine ⟨some (.str (due30 n (comesB n tb) js)),c14,?_⟩
  unfold b_law_2
  rw [due30_set hl]
  unfold lw30 at *
  generalize due30 n (comesB n tb) js=s at *
  generalize comesB n tb=c at *
  generalize rowV js=J at *
  generalize ns.map PV.int=nv at *
  generalize tabV tb=T at *
  generalize ws.map tabV=wv at *
  simp -implicitDefEqProofs [lim_eq,e]
theorem turn30 {n:Nat} (hn1:1<=n) (ns:List Int) (d:Int) (b3:Option PV) {tb:List (List Int)} (w:Wt' n tb) (k:Int) {ws:List (List (List Int))} (hwl:ws.length=4) (hws:∀ t ∈ ws,∃ m,Wt' m t) {t:Nat} (ht:t < 5) (b9 b10 b11 b12 b13 b14:Option PV) (S:Store) :
    ∃ c9 c10 c11 c12 c13 c14,b_law_1 (lw30 ns d n b3 tb (comesB n tb) k ws (some (.int t)) b9 b10 b11 b12 b13 b14) S=.nx (lw30 ns d n b3 tb (comesB n tb) k ws (some (.int t)) c9 c10 c11 c12 c13 c14) S:=by
  have h8:=w.n8
  have hd:=draw_ok ns (22 + t) S (by omega)
  rw [show ((22 + t:Nat):Int)=22 + (t:Int) by omega] at hd
  generalize drawI ns (22 + t)=x at *
  obtain ⟨pl,p,hp⟩:=pool_ok n hn1 h8 x S
  obtain ⟨js,ejs⟩:∃ js:List Int,rowV js=poolV pl:=⟨pl.map fun k:Nat=>(k:Int),by unfold rowV poolV; rw [List.map_map]; rfl⟩
  have hjl:js.length=pl.length:=by
    have:=congrArg (fun v=>match v with | PV.tup xs=>xs.length | _=>0) ejs
    simpa [rowV,poolV] using this
  have hjn:js ≠ []:=fun q=>by
    rw [q] at hjl
    exact p.ne (List.length_eq_zero_iff.mp hjl.symm)
  have hpl:=p.len
  rw [<- ejs] at hp
  obtain ⟨js2,hl2,hno⟩:=nopool_ok h8 hjn (by omega) (x / 16) S
  obtain ⟨Γ',S1,e,c12,c13,c14,rfl,hS⟩:=forG_inv (g:=rowV) (xs:=[js,js2]) (ga:=gaName 12) (body:=b_law_2) (w:=[]) (Γ:=lw30 ns d n b3 tb (comesB n tb) k ws (some (.int t)) (some (.int x)) (some (rowV js)) (some (rowV js2)) b12 b13 b14) (st:=S)
    (fun _ Γ st'=>∃ c12 c13 c14,Γ=lw30 ns d n b3 tb (comesB n tb) k ws (some (.int t)) (some (.int x)) (some (rowV js)) (some (rowV js2)) c12 c13 c14/\st'=S)
    (fun _ _ _ _=>by simp)
    (fun q z Γ st' hz ⟨c12,c13,c14,e1,e2⟩=>by
      subst e1; subst e2
      have hzl:z.length<=1000:=by
        have:=List.mem_of_getElem? hz
        simp only [List.mem_cons,List.not_mem_nil,or_false] at this
        rcases this with rfl | rfl <;> omega
      obtain ⟨d13,d14,e3⟩:=pool_turn30 hzl ns d b3 w k hwl hws x (some (.int t)) (some (rowV js)) (some (rowV js2)) c13 c14 st'
      exact ⟨_,rfl,_,st',e3,_,_,_,rfl,rfl⟩)
    ⟨_,_,_,rfl,rfl⟩
  subst hS
  have e:forG (gaName 12) b_law_2 [] [rowV js,rowV js2] _ _=_:=e
  refine ⟨some (.int x),some (rowV js),some (rowV js2),c12,c13,c14,?_⟩
  unfold lw30 at *
  generalize comesB n tb=c at *
  generalize rowV js=J at *
  generalize rowV js2=J2 at *
  generalize ns.map PV.int=nv at *
  generalize tabV tb=T at *
  generalize ws.map tabV=wv at *
  simp -implicitDefEqProofs [b_law_1,hd,hp,hno,lim_eq,e]
theorem law_true (ns:List Int):F_law [.fro (ns.map .int)] []=.ok (.bl true) []:=by
  have d0:=draw_ok ns 0 [] (by decide)
  rw [show ((0:Nat):Int)=0 from rfl] at d0
  generalize drawI ns 0=d at *
  obtain ⟨n,hn1,hn4,hn⟩:∃ n:Nat,1<=n/\n<=4/\(1:Int) + d % 4=n:=by
    have:=emod_lt d (b:=4) (by decide)
    exact ⟨(1 + d % 4).toNat,by omega,by omega,by omega⟩
  have hn8:n<=8:=by omega
  have hsp:=sparse_ok ns n hn8
  have w0:=sparI_wt ns n 2 hn1 hn8
  obtain ⟨y,hy,ey⟩:∃ y:Nat,y < 22/\1 + d / 8 % 8=y:=by
    have:=emod_lt (d / 8) (b:=8) (by decide)
    exact ⟨(1 + d / 8 % 8).toNat,by omega,by omega⟩
  obtain ⟨S1,tb1,w1,_,hz,e1,e2⟩:=start_ok ns n hn1 hn8 y (by omega) [some (.fro (ns.map .int)),some (.int d),some (.int n),some (.lst ((sparI ns n 2).map lstV)),none,none,none,none,none,none,none,none,none,none,none] rfl
  have hr1:-1000000<=(n:Int)/\(n:Int)<=1000000:=by omega
  have hb1:0<=(n:Int)/\(n:Int)<=1000000:=by omega
  have hcl:(List.replicate n (Cell.lst ((zRow n).map .int))).length=n:=by simp
  have e3:=tuples_lst w0 []
  obtain ⟨S,b3,tb,w,e4⟩:∃ (S:Store) (b3:Option PV) (tb:List (List Int)),Wt' n tb/\∀ X:MS,(mSeqS (mSet 1 (mCallF 2 F__law_b_draw (mCons (mVar 0) (mCons (mC (.int 0)) mNil))))
    (mSeqS (mSet 2 (mOp oAdd (mC (.int 1)) (mOp oMod (mVar 1) (mC (.int 4)))))
    (mSeqS (mSet 3 (mCallF 3 F__law_b_sparse (mCons (mVar 0) (mCons (mVar 2) (mCons (mC (.int 2)) mNil)))))
    (mSeqS (mIfS (toB (mOp oEq (mOp oMod (mOp oDiv (mVar 1) (mC (.int 4))) (mC (.int 2))) (mC (.int 0)))) (mSet 3 (mCallF 5 F__law_b_deeds (mCons (mTrk (mCompN [none,some 2] (gaName 0) (mRange1 (mCons (mVar 2) mNil)) mTrue e_law_1)) (mCons (mVar 0) (mCons (mC (.int 2)) (mCons (mOp oAdd (mC (.int 1)) (mOp oMod (mOp oDiv (mVar 1) (mC (.int 8))) (mC (.int 8)))) (mCons (mVal (mLRN (mVar 2))) mNil))))))) mNext)
    (mSeqS (mSet 4 (mCallF 1 F__law_b_tuples (mCons (mVar 3) mNil))) X))))) [some (.fro (ns.map .int)),none,none,none,none,none,none,none,none,none,none,none,none,none,none] []=X [some (.fro (ns.map .int)),some (.int d),some (.int n),b3,some (tabV tb),none,none,none,none,none,none,none,none,none,none] S:=by
    by_cases q:d / 4 % 2=0
    · refine ⟨S1,some (.ref n),tb1,w1,fun X=>?_⟩
      generalize (List.replicate n (Cell.lst ((zRow n).map .int)))=cells at *
      generalize ((List.range n).map fun k=>PV.ref (0 + k))=refs at *
      generalize (sparI ns n 2).map lstV=lv at *
      generalize ns.map PV.int=nv at *
      generalize tabV tb1=T at *
      simp -implicitDefEqProofs [d0,hn,hsp,q,ey,lim_eq,hr1,hz,hcl,hb1,e1,e2]
    · refine ⟨[],some (.lst ((sparI ns n 2).map lstV)),sparI ns n 2,w0,fun X=>?_⟩
      generalize (sparI ns n 2).map lstV=lv at *
      generalize ns.map PV.int=nv at *
      generalize tabV (sparI ns n 2)=T at *
      simp -implicitDefEqProofs [d0,hn,hsp,q,e3]
  have e5:=lcomes_ok w S
  have d1:=draw_ok ns 1 S (by decide)
  rw [show ((1:Nat):Int)=1 from rfl] at d1
  generalize drawI ns 1=x at *
  obtain ⟨k,ek⟩:∃ k,1 + x % 100000000000000000000=k:=⟨_,rfl⟩
  have e6:=bare_ok n hn1 hn8 S
  have e7:=bare_ok (n + 1) (by omega) (by omega) S
  rw [show ((n + 1:Nat):Int)=(n:Int) + 1 by omega] at e7
  obtain ⟨t4,S2,w4,e8⟩:=less_ok w S
  obtain ⟨ws,hws⟩:∃ ws,[tb,List.replicate n (List.replicate (n + 1) 0),List.replicate (n + 1) (List.replicate (n + 1 + 1) 0),t4]=ws:=⟨_,rfl⟩
  have hwl:ws.length=4:=by rw [<- hws]; rfl
  have hwm:∀ t ∈ ws,∃ m,Wt' m t:=fun t ht=>by
    rw [<- hws] at ht
    simp only [List.mem_cons,List.not_mem_nil,or_false] at ht
    rcases ht with rfl | rfl | rfl | rfl
    · exact ⟨_,w⟩
    · exact ⟨_,bareWt hn1 hn8⟩
    · exact ⟨_,bareWt (m:=n + 1) (by omega) (by omega)⟩
    · exact ⟨_,w4⟩
  have hwv:[tabV tb,tabV (List.replicate n (List.replicate (n + 1) 0)),tabV (List.replicate (n + 1) (List.replicate (n + 1 + 1) 0)),tabV t4]=ws.map tabV:=by rw [<- hws]; rfl
  obtain ⟨Γ',S3,e9,b8,b9,b10,b11,b12,b13,b14,rfl,hS⟩:=forG_inv (g:=fun k:Nat=>PV.int (k:Int)) (xs:=List.range 5) (ga:=gaName 8) (body:=b_law_1) (w:=[]) (Γ:=lw30 ns d n b3 tb (comesB n tb) k ws none none none none none none none) (st:=S2)
    (fun _ Γ st'=>∃ b8 b9 b10 b11 b12 b13 b14,Γ=lw30 ns d n b3 tb (comesB n tb) k ws b8 b9 b10 b11 b12 b13 b14/\st'=S2)
    (fun _ _ _ _=>by simp)
    (fun i t Γ st' hx ⟨b8,b9,b10,b11,b12,b13,b14,e1,e2⟩=>by
      subst e1; subst e2
      obtain ⟨c9,c10,c11,c12,c13,c14,e3⟩:=turn30 hn1 ns d b3 w k hwl hwm (List.mem_range.mp (List.mem_of_getElem? hx)) b9 b10 b11 b12 b13 b14 st'
      exact ⟨_,rfl,_,st',e3,_,_,_,_,_,_,_,rfl,rfl⟩)
    ⟨_,_,_,_,_,_,_,rfl,rfl⟩
  rw [<- rangeI0] at e9
  subst hS
  have step:m_law [some (.fro (ns.map .int)),none,none,none,none,none,none,none,none,none,none,none,none,none,none] []=.rt (.bl true) S3:=by
    unfold m_law
    rw [e4]
    have s56:∀ X:MS,(mSeqS (mSet 5 (mCallF 1 F__law_b_comes (mCons (mVar 4) mNil)))
      (mSeqS (mSet 6 (mOp oAdd (mC (.int 1)) (mOp oMod (mCallF 2 F__law_b_draw (mCons (mVar 0) (mCons (mC (.int 1)) mNil))) (mOp oPow (mC (.int 10)) (mC (.int 20))))))
      (mSeqS (mSet 7 (mLst (mCons (mVar 4) (mCons (mCallF 1 F_bare (mCons (mVar 2) mNil)) (mCons (mCallF 1 F_bare (mCons (mOp oAdd (mVar 2) (mC (.int 1))) mNil)) (mCons (mCallF 1 F__law_b_less (mCons (mVar 4) mNil)) mNil)))))) X))) [some (.fro (ns.map .int)),some (.int d),some (.int n),b3,some (tabV tb),none,none,none,none,none,none,none,none,none,none] S=X (lw30 ns d n b3 tb (comesB n tb) k ws none none none none none none none) S3:=fun X=>by
      unfold lw30
      rw [<- hwv]
      generalize comesB n tb=c at *
      generalize ns.map PV.int=nv at *
      generalize tabV tb=T at *
      generalize tabV t4=T4 at *
      generalize tabV (List.replicate n (List.replicate (n + 1) 0))=T2 at *
      generalize tabV (List.replicate (n + 1) (List.replicate (n + 1 + 1) 0))=T3 at *
      simp -implicitDefEqProofs [e5,d1,ek,e6,e7,e8,lim_eq]
    rw [s56]
    unfold lw30 at *
    generalize comesB n tb=c at *
    generalize ns.map PV.int=nv at *
    generalize tabV tb=T at *
    generalize ws.map tabV=wv at *
    simp -implicitDefEqProofs [lim_eq,e9]
  show callF m_law 15 _ []=_
  unfold callF
  rw [show (([PV.fro (ns.map .int)]:List PV).map some ++ List.replicate (15 - [PV.fro (ns.map .int)].length) none)=[some (.fro (ns.map .int)),none,none,none,none,none,none,none,none,none,none,none,none,none,none] from rfl,step]
  simp [fin,fz]
theorem law_all:∀ ns:List Int,ns.length<=63->∃ st',F_law [.fro (ns.map .int)] []=.ok (.bl true) st':=fun ns _=>⟨[],law_true ns⟩
end Lw
namespace Lw
open PySem PySem.Spec L2 Sm
theorem all_mk {l:PySem.W.OpenLaw} {w:World} {K:PySem.W.Frag} {h:Heap} {mg:Str->Option Value} {fa f1 f2 f3 f4 f5 f6 f7 f8 f9 f10 f11 f12 f13 f14 f15 f16 f17 f18 f19 f20 f21 f22 f23 f24 f25 f26 f27 f28 f29 f30 f31 f32 f33 f34 f35 f36 f37 f38 f39 f40 f41 f42 f43 f44 f45:Addr} (X:K.In h) (G:h.Ns mainGlobals mg) (hfa:mg "law" = some (.ref fa))
    {od1 an1 od2 an2 od3 an3 od4 an4 od5 an5 od6 an6 od7 an7 od8 an8 od9 an9 od10 an10 od11 an11 od12 an12 od13 an13 od14 an14 od15 an15 od16 an16 od17 an17 od18 an18 od19 an19 od20 an20 od21 an21 od22 an22 od23 an23 od24 an24 od25 an25 od26 an26 od27 an27 od28 an28 od29 an29 od30 an30 od31 an31 od32 an32 od33 an33 od34 an34 od35 an35 od36 an36 od37 an37 od38 an38 od39 an39 od40 an40 od41 an41 od42 an42 od43 an43 od44 an44 od45 an45:Option Addr}
    {sl1 sl2 sl3 sl4 sl5 sl6 sl7 sl8 sl9 sl10 sl11 sl12 sl13 sl14 sl15 sl16 sl17 sl18 sl19 sl20 sl21 sl22 sl23 sl24 sl25 sl26 sl27 sl28 sl29 sl30 sl31 sl32 sl33 sl34 sl35 sl36 sl37 sl38 sl39 sl40 sl41 sl42 sl43 sl44 sl45:Array (Option Value)}
    {oc1 kV1 dc1 pm1 cd1 ct1 oc2 kV2 dc2 pm2 cd2 ct2 oc3 kV3 dc3 pm3 cd3 ct3 oc4 kV4 dc4 pm4 cd4 ct4 oc5 kV5 dc5 pm5 cd5 ct5 oc6 kV6 dc6 pm6 cd6 ct6 oc7 kV7 dc7 pm7 cd7 ct7 oc8 kV8 dc8 pm8 cd8 ct8 oc9 kV9 dc9 pm9 cd9 ct9 oc10 kV10 dc10 pm10 cd10 ct10 oc11 kV11 dc11 pm11 cd11 ct11 oc12 kV12 dc12 pm12 cd12 ct12 oc13 kV13 dc13 pm13 cd13 ct13 oc14 kV14 dc14 pm14 cd14 ct14 oc15 kV15 dc15 pm15 cd15 ct15 oc16 kV16 dc16 pm16 cd16 ct16 oc17 kV17 dc17 pm17 cd17 ct17 oc18 kV18 dc18 pm18 cd18 ct18 oc19 kV19 dc19 pm19 cd19 ct19 oc20 kV20 dc20 pm20 cd20 ct20 oc21 kV21 dc21 pm21 cd21 ct21 oc22 kV22 dc22 pm22 cd22 ct22 oc23 kV23 dc23 pm23 cd23 ct23 oc24 kV24 dc24 pm24 cd24 ct24 oc25 kV25 dc25 pm25 cd25 ct25 oc26 kV26 dc26 pm26 cd26 ct26 oc27 kV27 dc27 pm27 cd27 ct27 oc28 kV28 dc28 pm28 cd28 ct28 oc29 kV29 dc29 pm29 cd29 ct29 oc30 kV30 dc30 pm30 cd30 ct30 oc31 kV31 dc31 pm31 cd31 ct31 oc32 kV32 dc32 pm32 cd32 ct32 oc33 kV33 dc33 pm33 cd33 ct33 oc34 kV34 dc34 pm34 cd34 ct34 oc35 kV35 dc35 pm35 cd35 ct35 oc36 kV36 dc36 pm36 cd36 ct36 oc37 kV37 dc37 pm37 cd37 ct37 oc38 kV38 dc38 pm38 cd38 ct38 oc39 kV39 dc39 pm39 cd39 ct39 oc40 kV40 dc40 pm40 cd40 ct40 oc41 kV41 dc41 pm41 cd41 ct41 oc42 kV42 dc42 pm42 cd42 ct42 oc43 kV43 dc43 pm43 cd43 ct43 oc44 kV44 dc44 pm44 cd44 ct44 oc45 kV45 dc45 pm45 cd45 ct45:Value}
    {e_NoHouse e_NoTable:Addr}
    {t_MOST_HOUSES:Tok}
    {ee0 ee1 ee2 ee3 ee4 ee5 ee6 ee7 ee8 ee9 ee10 ee11 ee12 ee13 ee14:Addr} {cdx1 cdx2:ClassData}
    (a1:PySem.W.nsIn K mainGlobals "is_whole" = some (some (.ref f1))) (l1:K.lookup f1=some ⟨oc1,od1,.func (PySem.W.fnOf "is_whole" "is_whole" (defArgs s_is_whole) (defBody s_is_whole) (defScope s_is_whole) .none kV1 dc1 pm1 an1 cd1 ct1),sl1⟩) (c1:PySem.W.codeIn K cd1 "is_whole" = true) (k1:PySem.W.keepIn K (.ref f1)=true)
    (a2:PySem.W.nsIn K mainGlobals "is_between" = some (some (.ref f2))) (l2:K.lookup f2=some ⟨oc2,od2,.func (PySem.W.fnOf "is_between" "is_between" (defArgs s_is_between) (defBody s_is_between) (defScope s_is_between) .none kV2 dc2 pm2 an2 cd2 ct2),sl2⟩) (c2:PySem.W.codeIn K cd2 "is_between" = true) (k2:PySem.W.keepIn K (.ref f2)=true)
    (a3:PySem.W.nsIn K mainGlobals "is_rising" = some (some (.ref f3))) (l3:K.lookup f3=some ⟨oc3,od3,.func (PySem.W.fnOf "is_rising" "is_rising" (defArgs s_is_rising) (defBody s_is_rising) (defScope s_is_rising) .none kV3 dc3 pm3 an3 cd3 ct3),sl3⟩) (c3:PySem.W.codeIn K cd3 "is_rising" = true) (k3:PySem.W.keepIn K (.ref f3)=true)
    (a4:PySem.W.nsIn K mainGlobals "is_row" = some (some (.ref f4))) (l4:K.lookup f4=some ⟨oc4,od4,.func (PySem.W.fnOf "is_row" "is_row" (defArgs s_is_row) (defBody s_is_row) (defScope s_is_row) .none kV4 dc4 pm4 an4 cd4 ct4),sl4⟩) (c4:PySem.W.codeIn K cd4 "is_row" = true) (k4:PySem.W.keepIn K (.ref f4)=true)
    (a5:PySem.W.nsIn K mainGlobals "is_table" = some (some (.ref f5))) (l5:K.lookup f5=some ⟨oc5,od5,.func (PySem.W.fnOf "is_table" "is_table" (defArgs s_is_table) (defBody s_is_table) (defScope s_is_table) .none kV5 dc5 pm5 an5 cd5 ct5),sl5⟩) (c5:PySem.W.codeIn K cd5 "is_table" = true) (k5:PySem.W.keepIn K (.ref f5)=true)
    (a6:PySem.W.nsIn K mainGlobals "bare" = some (some (.ref f6))) (l6:K.lookup f6=some ⟨oc6,od6,.func (PySem.W.fnOf "bare" "bare" (defArgs s_bare) (defBody s_bare) (defScope s_bare) .none kV6 dc6 pm6 an6 cd6 ct6),sl6⟩) (c6:PySem.W.codeIn K cd6 "bare" = true) (k6:PySem.W.keepIn K (.ref f6)=true)
    (a7:PySem.W.nsIn K mainGlobals "is_house" = some (some (.ref f7))) (l7:K.lookup f7=some ⟨oc7,od7,.func (PySem.W.fnOf "is_house" "is_house" (defArgs s_is_house) (defBody s_is_house) (defScope s_is_house) .none kV7 dc7 pm7 an7 cd7 ct7),sl7⟩) (c7:PySem.W.codeIn K cd7 "is_house" = true) (k7:PySem.W.keepIn K (.ref f7)=true)
    (a8:PySem.W.nsIn K mainGlobals "rights" = some (some (.ref f8))) (l8:K.lookup f8=some ⟨oc8,od8,.func (PySem.W.fnOf "rights" "rights" (defArgs s_rights) (defBody s_rights) (defScope s_rights) .none kV8 dc8 pm8 an8 cd8 ct8),sl8⟩) (c8:PySem.W.codeIn K cd8 "rights" = true) (k8:PySem.W.keepIn K (.ref f8)=true)
    (a9:PySem.W.nsIn K mainGlobals "stock" = some (some (.ref f9))) (l9:K.lookup f9=some ⟨oc9,od9,.func (PySem.W.fnOf "stock" "stock" (defArgs s_stock) (defBody s_stock) (defScope s_stock) .none kV9 dc9 pm9 an9 cd9 ct9),sl9⟩) (c9:PySem.W.codeIn K cd9 "stock" = true) (k9:PySem.W.keepIn K (.ref f9)=true)
    (a10:PySem.W.nsIn K mainGlobals "need_as_many_houses" = some (some (.ref f10))) (l10:K.lookup f10=some ⟨oc10,od10,.func (PySem.W.fnOf "need_as_many_houses" "need_as_many_houses" (defArgs s_need_as_many_houses) (defBody s_need_as_many_houses) (defScope s_need_as_many_houses) .none kV10 dc10 pm10 an10 cd10 ct10),sl10⟩) (c10:PySem.W.codeIn K cd10 "need_as_many_houses" = true) (k10:PySem.W.keepIn K (.ref f10)=true)
    (a11:PySem.W.nsIn K mainGlobals "is_row_within" = some (some (.ref f11))) (l11:K.lookup f11=some ⟨oc11,od11,.func (PySem.W.fnOf "is_row_within" "is_row_within" (defArgs s_is_row_within) (defBody s_is_row_within) (defScope s_is_row_within) .none kV11 dc11 pm11 an11 cd11 ct11),sl11⟩) (c11:PySem.W.codeIn K cd11 "is_row_within" = true) (k11:PySem.W.keepIn K (.ref f11)=true)
    (a12:PySem.W.nsIn K mainGlobals "is_within" = some (some (.ref f12))) (l12:K.lookup f12=some ⟨oc12,od12,.func (PySem.W.fnOf "is_within" "is_within" (defArgs s_is_within) (defBody s_is_within) (defScope s_is_within) .none kV12 dc12 pm12 an12 cd12 ct12),sl12⟩) (c12:PySem.W.codeIn K cd12 "is_within" = true) (k12:PySem.W.keepIn K (.ref f12)=true)
    (a13:PySem.W.nsIn K mainGlobals "raised" = some (some (.ref f13))) (l13:K.lookup f13=some ⟨oc13,od13,.func (PySem.W.fnOf "raised" "raised" (defArgs s_raised) (defBody s_raised) (defScope s_raised) .none kV13 dc13 pm13 an13 cd13 ct13),sl13⟩) (c13:PySem.W.codeIn K cd13 "raised" = true) (k13:PySem.W.keepIn K (.ref f13)=true)
    (a14:PySem.W.nsIn K mainGlobals "made_some" = some (some (.ref f14))) (l14:K.lookup f14=some ⟨oc14,od14,.func (PySem.W.fnOf "made_some" "made_some" (defArgs s_made_some) (defBody s_made_some) (defScope s_made_some) .none kV14 dc14 pm14 an14 cd14 ct14),sl14⟩) (c14:PySem.W.codeIn K cd14 "made_some" = true) (k14:PySem.W.keepIn K (.ref f14)=true)
    (a15:PySem.W.nsIn K mainGlobals "lent_or_used_some" = some (some (.ref f15))) (l15:K.lookup f15=some ⟨oc15,od15,.func (PySem.W.fnOf "lent_or_used_some" "lent_or_used_some" (defArgs s_lent_or_used_some) (defBody s_lent_or_used_some) (defScope s_lent_or_used_some) .none kV15 dc15 pm15 an15 cd15 ct15),sl15⟩) (c15:PySem.W.codeIn K cd15 "lent_or_used_some" = true) (k15:PySem.W.keepIn K (.ref f15)=true)
    (a16:PySem.W.nsIn K mainGlobals "was_lent_some" = some (some (.ref f16))) (l16:K.lookup f16=some ⟨oc16,od16,.func (PySem.W.fnOf "was_lent_some" "was_lent_some" (defArgs s_was_lent_some) (defBody s_was_lent_some) (defScope s_was_lent_some) .none kV16 dc16 pm16 an16 cd16 ct16),sl16⟩) (c16:PySem.W.codeIn K cd16 "was_lent_some" = true) (k16:PySem.W.keepIn K (.ref f16)=true)
    (a17:PySem.W.nsIn K mainGlobals "has_root" = some (some (.ref f17))) (l17:K.lookup f17=some ⟨oc17,od17,.func (PySem.W.fnOf "has_root" "has_root" (defArgs s_has_root) (defBody s_has_root) (defScope s_has_root) .none kV17 dc17 pm17 an17 cd17 ct17),sl17⟩) (c17:PySem.W.codeIn K cd17 "has_root" = true) (k17:PySem.W.keepIn K (.ref f17)=true)
    (a18:PySem.W.nsIn K mainGlobals "rooted_houses" = some (some (.ref f18))) (l18:K.lookup f18=some ⟨oc18,od18,.func (PySem.W.fnOf "rooted_houses" "rooted_houses" (defArgs s_rooted_houses) (defBody s_rooted_houses) (defScope s_rooted_houses) .none kV18 dc18 pm18 an18 cd18 ct18),sl18⟩) (c18:PySem.W.codeIn K cd18 "rooted_houses" = true) (k18:PySem.W.keepIn K (.ref f18)=true)
    (a19:PySem.W.nsIn K mainGlobals "rootless_houses" = some (some (.ref f19))) (l19:K.lookup f19=some ⟨oc19,od19,.func (PySem.W.fnOf "rootless_houses" "rootless_houses" (defArgs s_rootless_houses) (defBody s_rootless_houses) (defScope s_rootless_houses) .none kV19 dc19 pm19 an19 cd19 ct19),sl19⟩) (c19:PySem.W.codeIn K cd19 "rootless_houses" = true) (k19:PySem.W.keepIn K (.ref f19)=true)
    (a20:PySem.W.nsIn K mainGlobals "comes_about" = some (some (.ref f20))) (l20:K.lookup f20=some ⟨oc20,od20,.func (PySem.W.fnOf "comes_about" "comes_about" (defArgs s_comes_about) (defBody s_comes_about) (defScope s_comes_about) .none kV20 dc20 pm20 an20 cd20 ct20),sl20⟩) (c20:PySem.W.codeIn K cd20 "comes_about" = true) (k20:PySem.W.keepIn K (.ref f20)=true)
    (a21:PySem.W.nsIn K mainGlobals "does_come_about" = some (some (.ref f21))) (l21:K.lookup f21=some ⟨oc21,od21,.func (PySem.W.fnOf "does_come_about" "does_come_about" (defArgs s_does_come_about) (defBody s_does_come_about) (defScope s_does_come_about) .none kV21 dc21 pm21 an21 cd21 ct21),sl21⟩) (c21:PySem.W.codeIn K cd21 "does_come_about" = true) (k21:PySem.W.keepIn K (.ref f21)=true)
    (a22:PySem.W.nsIn K mainGlobals "need_comes_about" = some (some (.ref f22))) (l22:K.lookup f22=some ⟨oc22,od22,.func (PySem.W.fnOf "need_comes_about" "need_comes_about" (defArgs s_need_comes_about) (defBody s_need_comes_about) (defScope s_need_comes_about) .none kV22 dc22 pm22 an22 cd22 ct22),sl22⟩) (c22:PySem.W.codeIn K cd22 "need_comes_about" = true) (k22:PySem.W.keepIn K (.ref f22)=true)
    (a23:PySem.W.nsIn K mainGlobals "are_houses" = some (some (.ref f23))) (l23:K.lookup f23=some ⟨oc23,od23,.func (PySem.W.fnOf "are_houses" "are_houses" (defArgs s_are_houses) (defBody s_are_houses) (defScope s_are_houses) .none kV23 dc23 pm23 an23 cd23 ct23),sl23⟩) (c23:PySem.W.codeIn K cd23 "are_houses" = true) (k23:PySem.W.keepIn K (.ref f23)=true)
    (a24:PySem.W.nsIn K mainGlobals "is_pool" = some (some (.ref f24))) (l24:K.lookup f24=some ⟨oc24,od24,.func (PySem.W.fnOf "is_pool" "is_pool" (defArgs s_is_pool) (defBody s_is_pool) (defScope s_is_pool) .none kV24 dc24 pm24 an24 cd24 ct24),sl24⟩) (c24:PySem.W.codeIn K cd24 "is_pool" = true) (k24:PySem.W.keepIn K (.ref f24)=true)
    (a25:PySem.W.nsIn K mainGlobals "need_pool" = some (some (.ref f25))) (l25:K.lookup f25=some ⟨oc25,od25,.func (PySem.W.fnOf "need_pool" "need_pool" (defArgs s_need_pool) (defBody s_need_pool) (defScope s_need_pool) .none kV25 dc25 pm25 an25 cd25 ct25),sl25⟩) (c25:PySem.W.codeIn K cd25 "need_pool" = true) (k25:PySem.W.keepIn K (.ref f25)=true)
    (a26:PySem.W.nsIn K mainGlobals "rights_of_pool" = some (some (.ref f26))) (l26:K.lookup f26=some ⟨oc26,od26,.func (PySem.W.fnOf "rights_of_pool" "rights_of_pool" (defArgs s_rights_of_pool) (defBody s_rights_of_pool) (defScope s_rights_of_pool) .none kV26 dc26 pm26 an26 cd26 ct26),sl26⟩) (c26:PySem.W.codeIn K cd26 "rights_of_pool" = true) (k26:PySem.W.keepIn K (.ref f26)=true)
    (a27:PySem.W.nsIn K mainGlobals "least_stock" = some (some (.ref f27))) (l27:K.lookup f27=some ⟨oc27,od27,.func (PySem.W.fnOf "least_stock" "least_stock" (defArgs s_least_stock) (defBody s_least_stock) (defScope s_least_stock) .none kV27 dc27 pm27 an27 cd27 ct27),sl27⟩) (c27:PySem.W.codeIn K cd27 "least_stock" = true) (k27:PySem.W.keepIn K (.ref f27)=true)
    (a28:PySem.W.nsIn K mainGlobals "poorest_world" = some (some (.ref f28))) (l28:K.lookup f28=some ⟨oc28,od28,.func (PySem.W.fnOf "poorest_world" "poorest_world" (defArgs s_poorest_world) (defBody s_poorest_world) (defScope s_poorest_world) .none kV28 dc28 pm28 an28 cd28 ct28),sl28⟩) (c28:PySem.W.codeIn K cd28 "poorest_world" = true) (k28:PySem.W.keepIn K (.ref f28)=true)
    (a29:PySem.W.nsIn K mainGlobals "may_use" = some (some (.ref f29))) (l29:K.lookup f29=some ⟨oc29,od29,.func (PySem.W.fnOf "may_use" "may_use" (defArgs s_may_use) (defBody s_may_use) (defScope s_may_use) .none kV29 dc29 pm29 an29 cd29 ct29),sl29⟩) (c29:PySem.W.codeIn K cd29 "may_use" = true) (k29:PySem.W.keepIn K (.ref f29)=true)
    (a30:PySem.W.nsIn K mainGlobals "is_world" = some (some (.ref f30))) (l30:K.lookup f30=some ⟨oc30,od30,.func (PySem.W.fnOf "is_world" "is_world" (defArgs s_is_world) (defBody s_is_world) (defScope s_is_world) .none kV30 dc30 pm30 an30 cd30 ct30),sl30⟩) (c30:PySem.W.codeIn K cd30 "is_world" = true) (k30:PySem.W.keepIn K (.ref f30)=true)
    (a31:PySem.W.nsIn K mainGlobals "shows_must" = some (some (.ref f31))) (l31:K.lookup f31=some ⟨oc31,od31,.func (PySem.W.fnOf "shows_must" "shows_must" (defArgs s_shows_must) (defBody s_shows_must) (defScope s_shows_must) .none kV31 dc31 pm31 an31 cd31 ct31),sl31⟩) (c31:PySem.W.codeIn K cd31 "shows_must" = true) (k31:PySem.W.keepIn K (.ref f31)=true)
    (a32:PySem.W.nsIn K mainGlobals "_law_b_draw" = some (some (.ref f32))) (l32:K.lookup f32=some ⟨oc32,od32,.func (PySem.W.fnOf "_law_b_draw" "_law_b_draw" (defArgs s__law_b_draw) (defBody s__law_b_draw) (defScope s__law_b_draw) .none kV32 dc32 pm32 an32 cd32 ct32),sl32⟩) (c32:PySem.W.codeIn K cd32 "_law_b_draw" = true) (k32:PySem.W.keepIn K (.ref f32)=true)
    (a33:PySem.W.nsIn K mainGlobals "_law_b_rights" = some (some (.ref f33))) (l33:K.lookup f33=some ⟨oc33,od33,.func (PySem.W.fnOf "_law_b_rights" "_law_b_rights" (defArgs s__law_b_rights) (defBody s__law_b_rights) (defScope s__law_b_rights) .none kV33 dc33 pm33 an33 cd33 ct33),sl33⟩) (c33:PySem.W.codeIn K cd33 "_law_b_rights" = true) (k33:PySem.W.keepIn K (.ref f33)=true)
    (a34:PySem.W.nsIn K mainGlobals "_law_b_few" = some (some (.ref f34))) (l34:K.lookup f34=some ⟨oc34,od34,.func (PySem.W.fnOf "_law_b_few" "_law_b_few" (defArgs s__law_b_few) (defBody s__law_b_few) (defScope s__law_b_few) .none kV34 dc34 pm34 an34 cd34 ct34),sl34⟩) (c34:PySem.W.codeIn K cd34 "_law_b_few" = true) (k34:PySem.W.keepIn K (.ref f34)=true)
    (a35:PySem.W.nsIn K mainGlobals "_law_b_sparse" = some (some (.ref f35))) (l35:K.lookup f35=some ⟨oc35,od35,.func (PySem.W.fnOf "_law_b_sparse" "_law_b_sparse" (defArgs s__law_b_sparse) (defBody s__law_b_sparse) (defScope s__law_b_sparse) .none kV35 dc35 pm35 an35 cd35 ct35),sl35⟩) (c35:PySem.W.codeIn K cd35 "_law_b_sparse" = true) (k35:PySem.W.keepIn K (.ref f35)=true)
    (a36:PySem.W.nsIn K mainGlobals "_law_b_deeds" = some (some (.ref f36))) (l36:K.lookup f36=some ⟨oc36,od36,.func (PySem.W.fnOf "_law_b_deeds" "_law_b_deeds" (defArgs s__law_b_deeds) (defBody s__law_b_deeds) (defScope s__law_b_deeds) .none kV36 dc36 pm36 an36 cd36 ct36),sl36⟩) (c36:PySem.W.codeIn K cd36 "_law_b_deeds" = true) (k36:PySem.W.keepIn K (.ref f36)=true)
    (a37:PySem.W.nsIn K mainGlobals "_law_b_tuples" = some (some (.ref f37))) (l37:K.lookup f37=some ⟨oc37,od37,.func (PySem.W.fnOf "_law_b_tuples" "_law_b_tuples" (defArgs s__law_b_tuples) (defBody s__law_b_tuples) (defScope s__law_b_tuples) .none kV37 dc37 pm37 an37 cd37 ct37),sl37⟩) (c37:PySem.W.codeIn K cd37 "_law_b_tuples" = true) (k37:PySem.W.keepIn K (.ref f37)=true)
    (a38:PySem.W.nsIn K mainGlobals "_law_b_comes" = some (some (.ref f38))) (l38:K.lookup f38=some ⟨oc38,od38,.func (PySem.W.fnOf "_law_b_comes" "_law_b_comes" (defArgs s__law_b_comes) (defBody s__law_b_comes) (defScope s__law_b_comes) .none kV38 dc38 pm38 an38 cd38 ct38),sl38⟩) (c38:PySem.W.codeIn K cd38 "_law_b_comes" = true) (k38:PySem.W.keepIn K (.ref f38)=true)
    (a39:PySem.W.nsIn K mainGlobals "_law_b_pool" = some (some (.ref f39))) (l39:K.lookup f39=some ⟨oc39,od39,.func (PySem.W.fnOf "_law_b_pool" "_law_b_pool" (defArgs s__law_b_pool) (defBody s__law_b_pool) (defScope s__law_b_pool) .none kV39 dc39 pm39 an39 cd39 ct39),sl39⟩) (c39:PySem.W.codeIn K cd39 "_law_b_pool" = true) (k39:PySem.W.keepIn K (.ref f39)=true)
    (a40:PySem.W.nsIn K mainGlobals "_law_b_asked" = some (some (.ref f40))) (l40:K.lookup f40=some ⟨oc40,od40,.func (PySem.W.fnOf "_law_b_asked" "_law_b_asked" (defArgs s__law_b_asked) (defBody s__law_b_asked) (defScope s__law_b_asked) .none kV40 dc40 pm40 an40 cd40 ct40),sl40⟩) (c40:PySem.W.codeIn K cd40 "_law_b_asked" = true) (k40:PySem.W.keepIn K (.ref f40)=true)
    (a41:PySem.W.nsIn K mainGlobals "_law_b_told" = some (some (.ref f41))) (l41:K.lookup f41=some ⟨oc41,od41,.func (PySem.W.fnOf "_law_b_told" "_law_b_told" (defArgs s__law_b_told) (defBody s__law_b_told) (defScope s__law_b_told) .none kV41 dc41 pm41 an41 cd41 ct41),sl41⟩) (c41:PySem.W.codeIn K cd41 "_law_b_told" = true) (k41:PySem.W.keepIn K (.ref f41)=true)
    (a42:PySem.W.nsIn K mainGlobals "_law_b_less" = some (some (.ref f42))) (l42:K.lookup f42=some ⟨oc42,od42,.func (PySem.W.fnOf "_law_b_less" "_law_b_less" (defArgs s__law_b_less) (defBody s__law_b_less) (defScope s__law_b_less) .none kV42 dc42 pm42 an42 cd42 ct42),sl42⟩) (c42:PySem.W.codeIn K cd42 "_law_b_less" = true) (k42:PySem.W.keepIn K (.ref f42)=true)
    (a43:PySem.W.nsIn K mainGlobals "_law_b_no_pool" = some (some (.ref f43))) (l43:K.lookup f43=some ⟨oc43,od43,.func (PySem.W.fnOf "_law_b_no_pool" "_law_b_no_pool" (defArgs s__law_b_no_pool) (defBody s__law_b_no_pool) (defScope s__law_b_no_pool) .none kV43 dc43 pm43 an43 cd43 ct43),sl43⟩) (c43:PySem.W.codeIn K cd43 "_law_b_no_pool" = true) (k43:PySem.W.keepIn K (.ref f43)=true)
    (a44:PySem.W.nsIn K mainGlobals "_law_b_is_pool" = some (some (.ref f44))) (l44:K.lookup f44=some ⟨oc44,od44,.func (PySem.W.fnOf "_law_b_is_pool" "_law_b_is_pool" (defArgs s__law_b_is_pool) (defBody s__law_b_is_pool) (defScope s__law_b_is_pool) .none kV44 dc44 pm44 an44 cd44 ct44),sl44⟩) (c44:PySem.W.codeIn K cd44 "_law_b_is_pool" = true) (k44:PySem.W.keepIn K (.ref f44)=true)
    (a45:PySem.W.nsIn K mainGlobals "law" = some (some (.ref f45))) (l45:K.lookup f45=some ⟨oc45,od45,.func (PySem.W.fnOf "law" "law" (defArgs s_law) (defBody s_law) (defScope s_law) .none kV45 dc45 pm45 an45 cd45 ct45),sl45⟩) (c45:PySem.W.codeIn K cd45 "law" = true) (k45:PySem.W.keepIn K (.ref f45)=true)
    (z_all:PySem.W.nsIn K mainGlobals "all" = some none)
    (z_any:PySem.W.nsIn K mainGlobals "any" = some none)
    (z_bool:PySem.W.nsIn K mainGlobals "bool" = some none)
    (z_enumerate:PySem.W.nsIn K mainGlobals "enumerate" = some none)
    (z_int:PySem.W.nsIn K mainGlobals "int" = some none)
    (z_isinstance:PySem.W.nsIn K mainGlobals "isinstance" = some none)
    (z_len:PySem.W.nsIn K mainGlobals "len" = some none)
    (z_list:PySem.W.nsIn K mainGlobals "list" = some none)
    (z_min:PySem.W.nsIn K mainGlobals "min" = some none)
    (z_range:PySem.W.nsIn K mainGlobals "range" = some none)
    (z_sum:PySem.W.nsIn K mainGlobals "sum" = some none)
    (z_tuple:PySem.W.nsIn K mainGlobals "tuple" = some none)
    (z_zip:PySem.W.nsIn K mainGlobals "zip" = some none)
    (v_MOST_HOUSES:PySem.W.nsIn K mainGlobals "MOST_HOUSES" = some (some (.int 8 t_MOST_HOUSES)))
    (n_NoHouse:PySem.W.nsIn K mainGlobals "NoHouse" = some (some (.ref e_NoHouse))) (x_NoHouse:PySem.W.excIn K e_NoHouse bmVE "ValueError.__new__" = true)
    (n_NoTable:PySem.W.nsIn K mainGlobals "NoTable" = some (some (.ref e_NoTable))) (x_NoTable:PySem.W.excIn K e_NoTable bmVE "ValueError.__new__" = true)
    (nn0:PySem.W.nsIn K mainGlobals "WharfError" = some (some (.ref ee0)))
    (nn1:PySem.W.nsIn K mainGlobals "NoTable" = some (some (.ref ee1)))
    (nn2:PySem.W.nsIn K mainGlobals "NoHouse" = some (some (.ref ee2)))
    (nn3:PySem.W.nsIn K mainGlobals "NoDeed" = some (some (.ref ee3)))
    (nn4:PySem.W.nsIn K mainGlobals "NoLetter" = some (some (.ref ee4)))
    (nn5:PySem.W.nsIn K mainGlobals "NoStand" = some (some (.ref ee5)))
    (nn6:PySem.W.nsIn K mainGlobals "NoRoad" = some (some (.ref ee6)))
    (nn7:PySem.W.nsIn K mainGlobals "NoPlan" = some (some (.ref ee7)))
    (nn8:PySem.W.nsIn K mainGlobals "NoBook" = some (some (.ref ee8)))
    (nn9:PySem.W.nsIn K mainGlobals "NoManner" = some (some (.ref ee9)))
    (nn10:PySem.W.nsIn K mainGlobals "TooMany" = some (some (.ref ee10)))
    (nn11:PySem.W.nsIn K mainGlobals "NoText" = some (some (.ref ee11)))
    (nn12:PySem.W.nsIn K mainGlobals "NoRow" = some (some (.ref ee12)))
    (nn13:PySem.W.nsIn K mainGlobals "NoName" = some (some (.ref ee13)))
    (nn14:PySem.W.nsIn K mainGlobals "Short" = some (some (.ref ee14)))
    (nzValueError:PySem.W.nsIn K mainGlobals "ValueError" = some none)
    (nzany:PySem.W.nsIn K mainGlobals "any" = some none)
    (nzisinstance:PySem.W.nsIn K mainGlobals "isinstance" = some none)
    (xgs:PySem.W.specialIn K (.builtin "object.__class__") "__get__" = some (some (.builtin "getset_descriptor.__get__")))
    (xtk:PySem.W.takesIn K (.builtin "object.__class__")=some true)
    (xcls1:PySem.W.clsIn K ee1=some cdx1)
    (xga1:PySem.W.findIn K (.ref ee1) "__getattribute__" = some (some (.builtin "BaseException.__getattribute__")))
    (xgt1:PySem.W.findIn K (.ref ee1) "__getattr__" = some none)
    (xcl1:PySem.W.findIn K (.ref ee1) "__class__" = some (some (.builtin "object.__class__")))
    (xob1:PySem.W.mroIn K ee1 (.type "object")=some true)
    (xbe1:PySem.W.mroIn K ee1 (.type "BaseException")=some true)
    (xve1:PySem.W.kitOne K (.ref ee1) (.type "ValueError")=some true)
    (xex1:PySem.W.exmOne K (.ref ee1) (.ref ee0)=some true)
    (xk1_1:PySem.W.kitOne K (.ref ee1) (.ref ee1)=some true)
    (xk1_2:PySem.W.kitOne K (.ref ee1) (.ref ee2)=some false)
    (xk1_3:PySem.W.kitOne K (.ref ee1) (.ref ee3)=some false)
    (xk1_4:PySem.W.kitOne K (.ref ee1) (.ref ee4)=some false)
    (xk1_5:PySem.W.kitOne K (.ref ee1) (.ref ee5)=some false)
    (xk1_6:PySem.W.kitOne K (.ref ee1) (.ref ee6)=some false)
    (xk1_7:PySem.W.kitOne K (.ref ee1) (.ref ee7)=some false)
    (xk1_8:PySem.W.kitOne K (.ref ee1) (.ref ee8)=some false)
    (xk1_9:PySem.W.kitOne K (.ref ee1) (.ref ee9)=some false)
    (xk1_10:PySem.W.kitOne K (.ref ee1) (.ref ee10)=some false)
    (xk1_11:PySem.W.kitOne K (.ref ee1) (.ref ee11)=some false)
    (xk1_12:PySem.W.kitOne K (.ref ee1) (.ref ee12)=some false)
    (xk1_13:PySem.W.kitOne K (.ref ee1) (.ref ee13)=some false)
    (xk1_14:PySem.W.kitOne K (.ref ee1) (.ref ee14)=some false)
    (xcls2:PySem.W.clsIn K ee2=some cdx2)
    (xga2:PySem.W.findIn K (.ref ee2) "__getattribute__" = some (some (.builtin "BaseException.__getattribute__")))
    (xgt2:PySem.W.findIn K (.ref ee2) "__getattr__" = some none)
    (xcl2:PySem.W.findIn K (.ref ee2) "__class__" = some (some (.builtin "object.__class__")))
    (xob2:PySem.W.mroIn K ee2 (.type "object")=some true)
    (xbe2:PySem.W.mroIn K ee2 (.type "BaseException")=some true)
    (xve2:PySem.W.kitOne K (.ref ee2) (.type "ValueError")=some true)
    (xex2:PySem.W.exmOne K (.ref ee2) (.ref ee0)=some true)
    (xk2_1:PySem.W.kitOne K (.ref ee2) (.ref ee1)=some false)
    (xk2_2:PySem.W.kitOne K (.ref ee2) (.ref ee2)=some true)
    (xk2_3:PySem.W.kitOne K (.ref ee2) (.ref ee3)=some false)
    (xk2_4:PySem.W.kitOne K (.ref ee2) (.ref ee4)=some false)
    (xk2_5:PySem.W.kitOne K (.ref ee2) (.ref ee5)=some false)
    (xk2_6:PySem.W.kitOne K (.ref ee2) (.ref ee6)=some false)
    (xk2_7:PySem.W.kitOne K (.ref ee2) (.ref ee7)=some false)
    (xk2_8:PySem.W.kitOne K (.ref ee2) (.ref ee8)=some false)
    (xk2_9:PySem.W.kitOne K (.ref ee2) (.ref ee9)=some false)
    (xk2_10:PySem.W.kitOne K (.ref ee2) (.ref ee10)=some false)
    (xk2_11:PySem.W.kitOne K (.ref ee2) (.ref ee11)=some false)
    (xk2_12:PySem.W.kitOne K (.ref ee2) (.ref ee12)=some false)
    (xk2_13:PySem.W.kitOne K (.ref ee2) (.ref ee13)=some false)
    (xk2_14:PySem.W.kitOne K (.ref ee2) (.ref ee14)=some false)
    (hL:noL K=true) :
    ∃ fd:FuncData,(∀ (s:Shared) (v:Value),BindsTo s fd ⟨[v],[]⟩ [("script",v)])/\∀ base:Heap,K.In base->base.Ns mainGlobals mg->FnOk l.prog w K mg base (CXD l.prog w) 13 fa fd ["script"] (spLawS K):=by
  have e:=hfa.symm.trans (PySem.W.mg_of X G a45)
  cases e
  have T:Txt mg:=⟨PySem.W.mg_none_of X G z_all,PySem.W.mg_none_of X G z_any,PySem.W.mg_none_of X G z_bool,PySem.W.mg_none_of X G z_enumerate,PySem.W.mg_none_of X G z_int,PySem.W.mg_none_of X G z_isinstance,PySem.W.mg_none_of X G z_len,PySem.W.mg_none_of X G z_list,PySem.W.mg_none_of X G z_min,PySem.W.mg_none_of X G z_range,PySem.W.mg_none_of X G z_sum,PySem.W.mg_none_of X G z_tuple,PySem.W.mg_none_of X G z_zip,⟨_,PySem.W.mg_of X G v_MOST_HOUSES⟩⟩
  have C_NoHouse:∃ C,mg "NoHouse" = some (.ref C)/\PySem.W.excIn K C bmVE "ValueError.__new__" = true:=⟨_,PySem.W.mg_of X G n_NoHouse,x_NoHouse⟩
  have C_NoTable:∃ C,mg "NoTable" = some (.ref C)/\PySem.W.excIn K C bmVE "ValueError.__new__" = true:=⟨_,PySem.W.mg_of X G n_NoTable,x_NoTable⟩
  have Nm:Nms mg (fun i=>[ee0,ee1,ee2,ee3,ee4,ee5,ee6,ee7,ee8,ee9,ee10,ee11,ee12,ee13,ee14].getD i 0):=⟨PySem.W.mg_of X G nn0,PySem.W.mg_of X G nn1,PySem.W.mg_of X G nn2,PySem.W.mg_of X G nn3,PySem.W.mg_of X G nn4,PySem.W.mg_of X G nn5,PySem.W.mg_of X G nn6,PySem.W.mg_of X G nn7,PySem.W.mg_of X G nn8,PySem.W.mg_of X G nn9,PySem.W.mg_of X G nn10,PySem.W.mg_of X G nn11,PySem.W.mg_of X G nn12,PySem.W.mg_of X G nn13,PySem.W.mg_of X G nn14,PySem.W.mg_none_of X G nzValueError,PySem.W.mg_none_of X G nzany,PySem.W.mg_none_of X G nzisinstance⟩
  have XC1:XCls K ee1:=⟨show (PySem.W.clsIn K ee1).isSome=true by rw [xcls1]; rfl,xga1,xgt1,xcl1,xgs,xtk,xob1,xbe1⟩
  have T1:TgtS K (fun i=>[ee0,ee1,ee2,ee3,ee4,ee5,ee6,ee7,ee8,ee9,ee10,ee11,ee12,ee13,ee14].getD i 0) 1:=⟨XC1,xve1,xex1,fun i h1 h2=>match i,h1,h2 with | 0,h,_=>absurd h (by omega) | 1,_,_=>xk1_1 | 2,_,_=>xk1_2 | 3,_,_=>xk1_3 | 4,_,_=>xk1_4 | 5,_,_=>xk1_5 | 6,_,_=>xk1_6 | 7,_,_=>xk1_7 | 8,_,_=>xk1_8 | 9,_,_=>xk1_9 | 10,_,_=>xk1_10 | 11,_,_=>xk1_11 | 12,_,_=>xk1_12 | 13,_,_=>xk1_13 | 14,_,_=>xk1_14 | _ + 15,_,h=>absurd h (by omega)⟩
  have XC2:XCls K ee2:=⟨show (PySem.W.clsIn K ee2).isSome=true by rw [xcls2]; rfl,xga2,xgt2,xcl2,xgs,xtk,xob2,xbe2⟩
  have T2:TgtS K (fun i=>[ee0,ee1,ee2,ee3,ee4,ee5,ee6,ee7,ee8,ee9,ee10,ee11,ee12,ee13,ee14].getD i 0) 2:=⟨XC2,xve2,xex2,fun i h1 h2=>match i,h1,h2 with | 0,h,_=>absurd h (by omega) | 1,_,_=>xk2_1 | 2,_,_=>xk2_2 | 3,_,_=>xk2_3 | 4,_,_=>xk2_4 | 5,_,_=>xk2_5 | 6,_,_=>xk2_6 | 7,_,_=>xk2_7 | 8,_,_=>xk2_8 | 9,_,_=>xk2_9 | 10,_,_=>xk2_10 | 11,_,_=>xk2_11 | 12,_,_=>xk2_12 | 13,_,_=>xk2_13 | 14,_,_=>xk2_14 | _ + 15,_,h=>absurd h (by omega)⟩
  have A1:=atS_mk (st:=s_is_whole) (ps:=["thing"]) X G a1 l1 c1 k1 fun _ _ _ _ _ _ us hl=>match us,hl with | [_],_=>rfl
  have A2:=atS_mk (st:=s_is_between) (ps:=["thing", "least", "most"]) X G a2 l2 c2 k2 fun _ _ _ _ _ _ us hl=>match us,hl with | [_,_,_],_=>rfl
  have A3:=atS_mk (st:=s_is_rising) (ps:=["things"]) X G a3 l3 c3 k3 fun _ _ _ _ _ _ us hl=>match us,hl with | [_],_=>rfl
  have A4:=atS_mk (st:=s_is_row) (ps:=["thing", "n"]) X G a4 l4 c4 k4 fun _ _ _ _ _ _ us hl=>match us,hl with | [_,_],_=>rfl
  have A5:=atS_mk (st:=s_is_table) (ps:=["thing"]) X G a5 l5 c5 k5 fun _ _ _ _ _ _ us hl=>match us,hl with | [_],_=>rfl
  have A6:=atS_mk (st:=s_bare) (ps:=["n"]) X G a6 l6 c6 k6 fun _ _ _ _ _ _ us hl=>match us,hl with | [_],_=>rfl
  have A7:=atS_mk (st:=s_is_house) (ps:=["table", "thing"]) X G a7 l7 c7 k7 fun _ _ _ _ _ _ us hl=>match us,hl with | [_,_],_=>rfl
  have A8:=atS_mk (st:=s_rights) (ps:=["table", "house"]) X G a8 l8 c8 k8 fun _ _ _ _ _ _ us hl=>match us,hl with | [_,_],_=>rfl
  have A9:=atS_mk (st:=s_stock) (ps:=["table"]) X G a9 l9 c9 k9 fun _ _ _ _ _ _ us hl=>match us,hl with | [_],_=>rfl
  have A10:=atS_mk (st:=s_need_as_many_houses) (ps:=["one", "other"]) X G a10 l10 c10 k10 fun _ _ _ _ _ _ us hl=>match us,hl with | [_,_],_=>rfl
  have A11:=atS_mk (st:=s_is_row_within) (ps:=["one", "other"]) X G a11 l11 c11 k11 fun _ _ _ _ _ _ us hl=>match us,hl with | [_,_],_=>rfl
  have A12:=atS_mk (st:=s_is_within) (ps:=["one", "other"]) X G a12 l12 c12 k12 fun _ _ _ _ _ _ us hl=>match us,hl with | [_,_],_=>rfl
  have A13:=atS_mk (st:=s_raised) (ps:=["table", "house", "place", "k"]) X G a13 l13 c13 k13 fun _ _ _ _ _ _ us hl=>match us,hl with | [_,_,_,_],_=>rfl
  have A14:=atS_mk (st:=s_made_some) (ps:=["table", "house"]) X G a14 l14 c14 k14 fun _ _ _ _ _ _ us hl=>match us,hl with | [_,_],_=>rfl
  have A15:=atS_mk (st:=s_lent_or_used_some) (ps:=["table", "house"]) X G a15 l15 c15 k15 fun _ _ _ _ _ _ us hl=>match us,hl with | [_,_],_=>rfl
  have A16:=atS_mk (st:=s_was_lent_some) (ps:=["table", "house", "lenders"]) X G a16 l16 c16 k16 fun _ _ _ _ _ _ us hl=>match us,hl with | [_,_,_],_=>rfl
  have A17:=atS_mk (st:=s_has_root) (ps:=["table", "house", "ahead"]) X G a17 l17 c17 k17 fun _ _ _ _ _ _ us hl=>match us,hl with | [_,_,_],_=>rfl
  have A18:=atS_mk (st:=s_rooted_houses) (ps:=["table"]) X G a18 l18 c18 k18 fun _ _ _ _ _ _ us hl=>match us,hl with | [_],_=>rfl
  have A19:=atS_mk (st:=s_rootless_houses) (ps:=["table"]) X G a19 l19 c19 k19 fun _ _ _ _ _ _ us hl=>match us,hl with | [_],_=>rfl
  have A20:=atS_mk (st:=s_comes_about) (ps:=["table"]) X G a20 l20 c20 k20 fun _ _ _ _ _ _ us hl=>match us,hl with | [_],_=>rfl
  have A21:=atS_mk (st:=s_does_come_about) (ps:=["thing"]) X G a21 l21 c21 k21 fun _ _ _ _ _ _ us hl=>match us,hl with | [_],_=>rfl
  have A22:=atS_mk (st:=s_need_comes_about) (ps:=["thing"]) X G a22 l22 c22 k22 fun _ _ _ _ _ _ us hl=>match us,hl with | [_],_=>rfl
  have A23:=atS_mk (st:=s_are_houses) (ps:=["table", "houses"]) X G a23 l23 c23 k23 fun _ _ _ _ _ _ us hl=>match us,hl with | [_,_],_=>rfl
  have A24:=atS_mk (st:=s_is_pool) (ps:=["table", "thing"]) X G a24 l24 c24 k24 fun _ _ _ _ _ _ us hl=>match us,hl with | [_,_],_=>rfl
  have A25:=atS_mk (st:=s_need_pool) (ps:=["table", "pool"]) X G a25 l25 c25 k25 fun _ _ _ _ _ _ us hl=>match us,hl with | [_,_],_=>rfl
  have A26:=atS_mk (st:=s_rights_of_pool) (ps:=["table", "pool"]) X G a26 l26 c26 k26 fun _ _ _ _ _ _ us hl=>match us,hl with | [_,_],_=>rfl
  have A27:=atS_mk (st:=s_least_stock) (ps:=["table", "pool"]) X G a27 l27 c27 k27 fun _ _ _ _ _ _ us hl=>match us,hl with | [_,_],_=>rfl
  have A28:=atS_mk (st:=s_poorest_world) (ps:=["table", "pool"]) X G a28 l28 c28 k28 fun _ _ _ _ _ _ us hl=>match us,hl with | [_,_],_=>rfl
  have A29:=atS_mk (st:=s_may_use) (ps:=["table", "pool", "k"]) X G a29 l29 c29 k29 fun _ _ _ _ _ _ us hl=>match us,hl with | [_,_,_],_=>rfl
  have A30:=atS_mk (st:=s_is_world) (ps:=["table", "pool", "world"]) X G a30 l30 c30 k30 fun _ _ _ _ _ _ us hl=>match us,hl with | [_,_,_],_=>rfl
  have A31:=atS_mk (st:=s_shows_must) (ps:=["table", "pool", "k", "world"]) X G a31 l31 c31 k31 fun _ _ _ _ _ _ us hl=>match us,hl with | [_,_,_,_],_=>rfl
  have A32:=atS_mk (st:=s__law_b_draw) (ps:=["script", "k"]) X G a32 l32 c32 k32 fun _ _ _ _ _ _ us hl=>match us,hl with | [_,_],_=>rfl
  have A33:=atS_mk (st:=s__law_b_rights) (ps:=["table", "house"]) X G a33 l33 c33 k33 fun _ _ _ _ _ _ us hl=>match us,hl with | [_,_],_=>rfl
  have A34:=atS_mk (st:=s__law_b_few) (ps:=["draw"]) X G a34 l34 c34 k34 fun _ _ _ _ _ _ us hl=>match us,hl with | [_],_=>rfl
  have A35:=atS_mk (st:=s__law_b_sparse) (ps:=["script", "n", "at"]) X G a35 l35 c35 k35 fun _ _ _ _ _ _ us hl=>match us,hl with | [_,_,_],_=>rfl
  have A36:=atS_mk (st:=s__law_b_deeds) (ps:=["rows", "script", "at", "many", "houses"]) X G a36 l36 c36 k36 fun _ _ _ _ _ _ us hl=>match us,hl with | [_,_,_,_,_],_=>rfl
  have A37:=atS_mk (st:=s__law_b_tuples) (ps:=["rows"]) X G a37 l37 c37 k37 fun _ _ _ _ _ _ us hl=>match us,hl with | [_],_=>rfl
  have A38:=atS_mk (st:=s__law_b_comes) (ps:=["table"]) X G a38 l38 c38 k38 fun _ _ _ _ _ _ us hl=>match us,hl with | [_],_=>rfl
  have A39:=atS_mk (st:=s__law_b_pool) (ps:=["n", "draw"]) X G a39 l39 c39 k39 fun _ _ _ _ _ _ us hl=>match us,hl with | [_,_],_=>rfl
  have A40:=atS_mk (st:=s__law_b_asked) (ps:=["door", "table", "pool", "k", "world"]) X G a40 l40 c40 k40 fun _ _ _ _ _ _ us hl=>match us,hl with | [_,_,_,_,_],_=>rfl
  have A41:=atS_mk (st:=s__law_b_told) (ps:=["door", "table", "pool", "k", "world"]) X G a41 l41 c41 k41 fun _ _ _ _ _ _ us hl=>match us,hl with | [_,_,_,_,_],_=>rfl
  have A42:=atS_mk (st:=s__law_b_less) (ps:=["table"]) X G a42 l42 c42 k42 fun _ _ _ _ _ _ us hl=>match us,hl with | [_],_=>rfl
  have A43:=atS_mk (st:=s__law_b_no_pool) (ps:=["pool", "n", "draw"]) X G a43 l43 c43 k43 fun _ _ _ _ _ _ us hl=>match us,hl with | [_,_,_],_=>rfl
  have A44:=atS_mk (st:=s__law_b_is_pool) (ps:=["pool", "n"]) X G a44 l44 c44 k44 fun _ _ _ _ _ _ us hl=>match us,hl with | [_,_],_=>rfl
  have A45:=atS_mk (st:=s_law) (ps:=["script"]) X G a45 l45 c45 k45 fun _ _ _ _ _ _ us hl=>match us,hl with | [_],_=>rfl
  refine ⟨PySem.W.fnOf "law" "law" (defArgs s_law) (defBody s_law) (defScope s_law) .none kV45 dc45 pm45 an45 cd45 ct45,fun s v=>.of_eq rfl,fun base kb nb=>?_⟩
  have D_is_whole:=A1.def (P:=l.prog) (w:=w) (base:=base) rfl (ok_is_whole A1.F T   )
  have D_is_between:=A2.def (P:=l.prog) (w:=w) (base:=base) rfl (ok_is_between A2.F T   D_is_whole)
  have D_is_rising:=A3.def (P:=l.prog) (w:=w) (base:=base) rfl (ok_is_rising A3.F T   )
  have D_is_row:=A4.def (P:=l.prog) (w:=w) (base:=base) rfl (ok_is_row A4.F T   D_is_whole)
  have D_is_table:=A5.def (P:=l.prog) (w:=w) (base:=base) rfl (ok_is_table A5.F T   D_is_row)
  have D_bare:=A6.def (P:=l.prog) (w:=w) (base:=base) rfl (ok_bare A6.F T   )
  have D_is_house:=A7.def (P:=l.prog) (w:=w) (base:=base) rfl (ok_is_house A7.F T   D_is_between)
  have D_rights:=A8.def (P:=l.prog) (w:=w) (base:=base) rfl (ok_rights A8.F T  C_NoHouse D_is_house)
  have D_stock:=A9.def (P:=l.prog) (w:=w) (base:=base) rfl (ok_stock A9.F T   )
  have D_need_as_many_houses:=A10.def (P:=l.prog) (w:=w) (base:=base) rfl (ok_need_as_many_houses A10.F T  C_NoTable )
  have D_is_row_within:=A11.def (P:=l.prog) (w:=w) (base:=base) rfl (ok_is_row_within A11.F T   )
  have D_is_within:=A12.def (P:=l.prog) (w:=w) (base:=base) rfl (ok_is_within A12.F T   D_need_as_many_houses D_is_row_within)
  have D_raised:=A13.def (P:=l.prog) (w:=w) (base:=base) rfl (ok_raised A13.F T   )
  have D_made_some:=A14.def (P:=l.prog) (w:=w) (base:=base) rfl (ok_made_some A14.F T   )
  have D_lent_or_used_some:=A15.def (P:=l.prog) (w:=w) (base:=base) rfl (ok_lent_or_used_some A15.F T   )
  have D_was_lent_some:=A16.def (P:=l.prog) (w:=w) (base:=base) rfl (ok_was_lent_some A16.F T   )
  have D_has_root:=A17.def (P:=l.prog) (w:=w) (base:=base) rfl (ok_has_root A17.F T   D_made_some D_was_lent_some)
  have D_rooted_houses:=A18.def (P:=l.prog) (w:=w) (base:=base) rfl (ok_rooted_houses A18.F T   D_has_root)
  have D_rootless_houses:=A19.def (P:=l.prog) (w:=w) (base:=base) rfl (ok_rootless_houses A19.F T   D_rooted_houses D_lent_or_used_some)
  have D_comes_about:=A20.def (P:=l.prog) (w:=w) (base:=base) rfl (ok_comes_about A20.F T   D_rights D_rootless_houses D_rooted_houses)
  have D_does_come_about:=A21.def (P:=l.prog) (w:=w) (base:=base) rfl (ok_does_come_about A21.F T   D_is_table D_comes_about)
  have D_need_comes_about:=A22.def (P:=l.prog) (w:=w) (base:=base) rfl (ok_need_comes_about A22.F T  C_NoTable D_does_come_about)
  have D_are_houses:=A23.def (P:=l.prog) (w:=w) (base:=base) rfl (ok_are_houses A23.F T   D_is_house)
  have D_is_pool:=A24.def (P:=l.prog) (w:=w) (base:=base) rfl (ok_is_pool A24.F T   D_are_houses D_is_rising)
  have D_need_pool:=A25.def (P:=l.prog) (w:=w) (base:=base) rfl (ok_need_pool A25.F T  C_NoHouse D_need_comes_about D_is_pool)
  have D_rights_of_pool:=A26.def (P:=l.prog) (w:=w) (base:=base) rfl (ok_rights_of_pool A26.F T   D_rights)
  have D_least_stock:=A27.def (P:=l.prog) (w:=w) (base:=base) rfl (ok_least_stock A27.F T   D_need_pool D_rights_of_pool)
  have D_poorest_world:=A28.def (P:=l.prog) (w:=w) (base:=base) rfl (ok_poorest_world A28.F T   D_raised D_rights)
  have D_may_use:=A29.def (P:=l.prog) (w:=w) (base:=base) rfl (ok_may_use A29.F T   D_need_pool D_rights_of_pool D_poorest_world)
  have D_is_world:=A30.def (P:=l.prog) (w:=w) (base:=base) rfl (ok_is_world A30.F T   D_need_pool D_does_come_about D_is_within)
  have D_shows_must:=A31.def (P:=l.prog) (w:=w) (base:=base) rfl (ok_shows_must A31.F T   D_is_world D_stock)
  have D__law_b_draw:=A32.def (P:=l.prog) (w:=w) (base:=base) rfl (ok__law_b_draw A32.F T   )
  have D__law_b_rights:=A33.def (P:=l.prog) (w:=w) (base:=base) rfl (ok__law_b_rights A33.F T   )
  have D__law_b_few:=A34.def (P:=l.prog) (w:=w) (base:=base) rfl (ok__law_b_few A34.F T   )
  have D__law_b_sparse:=A35.def (P:=l.prog) (w:=w) (base:=base) rfl (ok__law_b_sparse A35.F T   D__law_b_few D__law_b_draw)
  have D__law_b_deeds:=A36.def (P:=l.prog) (w:=w) (base:=base) rfl (ok__law_b_deeds A36.F T   D__law_b_draw D__law_b_rights)
  have D__law_b_tuples:=A37.def (P:=l.prog) (w:=w) (base:=base) rfl (ok__law_b_tuples A37.F T   )
  have D__law_b_comes:=A38.def (P:=l.prog) (w:=w) (base:=base) rfl (ok__law_b_comes A38.F T   D__law_b_rights)
  have D__law_b_pool:=A39.def (P:=l.prog) (w:=w) (base:=base) rfl (ok__law_b_pool A39.F T   )
  have D__law_b_asked:=A40.def (P:=l.prog) (w:=w) (base:=base) rfl (ok__law_b_asked A40.F T   D_least_stock D_may_use D_is_world D_shows_must)
  have D__law_b_told:=A41.def (P:=l.prog) (w:=w) (base:=base) rfl (ok__law_b_told A41.F T Nm T1 T2  D__law_b_asked)
  have D__law_b_less:=A42.def (P:=l.prog) (w:=w) (base:=base) rfl (ok__law_b_less A42.F T   D__law_b_tuples)
  have D__law_b_no_pool:=A43.def (P:=l.prog) (w:=w) (base:=base) rfl (ok__law_b_no_pool A43.F T   )
  have D__law_b_is_pool:=A44.def (P:=l.prog) (w:=w) (base:=base) rfl (ok__law_b_is_pool A44.F T   )
  exact law_imp hL (ok_law A45.F T   D__law_b_draw D__law_b_sparse D__law_b_deeds D__law_b_tuples D__law_b_comes D_bare D__law_b_less D__law_b_pool D__law_b_no_pool D__law_b_is_pool D__law_b_told) law_all
end Lw
theorem PySem.W.Fast.tw3499206654412226756 : True := trivial
theorem PySem.W.Fast.tw6714988477126823782 : True := trivial
theorem PySem.W.Fast.tw13528545139987953981 : True := trivial
theorem PySem.W.Fast.tw5662865405508812256 : True := trivial
theorem PySem.W.Fast.tw7106411571535715134 : True := trivial
theorem PySem.W.Fast.tw11970409724250007148 : True := trivial
theorem PySem.W.Fast.tw3826677179251961090 : True := trivial
theorem PySem.W.Fast.tw13973380169846535247 : True := trivial
theorem PySem.W.Fast.tw7292363537898460662 : True := trivial
theorem PySem.W.Fast.tw6720485168662120612 : True := trivial
theorem PySem.W.Fast.te1505211798102470595 : True := trivial
open PySem PySem.W PyProof.Rows
set_option maxRecDepth 100000 in
set_option maxHeartbeats 0 in
theorem PySem.Challenge.cw_lendwharf_k30_views_refused_holds : PySem.Challenge.rw_lendwharf_k30_views_refused.Holds := by
  w_on; o_law; k_head; (case hw=>w_witness2)
  k_fill
  refine Sm.walkS (l:=PySem.Challenge.rw_lendwharf_k30_views_refused) (k:=13) rfl ⟨rfl,by decide,by decide⟩ rfl (fun w h Y=>PySem.W.kIn_of Y) ?F
  case F=>
    intro w mg fa h KX G hmg
    refine' Lw.all_mk KX G hmg ?a1 ?l1 ?c1 ?k1 ?a2 ?l2 ?c2 ?k2 ?a3 ?l3 ?c3 ?k3 ?a4 ?l4 ?c4 ?k4 ?a5 ?l5 ?c5 ?k5 ?a6 ?l6 ?c6 ?k6 ?a7 ?l7 ?c7 ?k7 ?a8 ?l8 ?c8 ?k8 ?a9 ?l9 ?c9 ?k9 ?a10 ?l10 ?c10 ?k10 ?a11 ?l11 ?c11 ?k11 ?a12 ?l12 ?c12 ?k12 ?a13 ?l13 ?c13 ?k13 ?a14 ?l14 ?c14 ?k14 ?a15 ?l15 ?c15 ?k15 ?a16 ?l16 ?c16 ?k16 ?a17 ?l17 ?c17 ?k17 ?a18 ?l18 ?c18 ?k18 ?a19 ?l19 ?c19 ?k19 ?a20 ?l20 ?c20 ?k20 ?a21 ?l21 ?c21 ?k21 ?a22 ?l22 ?c22 ?k22 ?a23 ?l23 ?c23 ?k23 ?a24 ?l24 ?c24 ?k24 ?a25 ?l25 ?c25 ?k25 ?a26 ?l26 ?c26 ?k26 ?a27 ?l27 ?c27 ?k27 ?a28 ?l28 ?c28 ?k28 ?a29 ?l29 ?c29 ?k29 ?a30 ?l30 ?c30 ?k30 ?a31 ?l31 ?c31 ?k31 ?a32 ?l32 ?c32 ?k32 ?a33 ?l33 ?c33 ?k33 ?a34 ?l34 ?c34 ?k34 ?a35 ?l35 ?c35 ?k35 ?a36 ?l36 ?c36 ?k36 ?a37 ?l37 ?c37 ?k37 ?a38 ?l38 ?c38 ?k38 ?a39 ?l39 ?c39 ?k39 ?a40 ?l40 ?c40 ?k40 ?a41 ?l41 ?c41 ?k41 ?a42 ?l42 ?c42 ?k42 ?a43 ?l43 ?c43 ?k43 ?a44 ?l44 ?c44 ?k44 ?a45 ?l45 ?c45 ?k45 ?z_all ?z_any ?z_bool ?z_enumerate ?z_int ?z_isinstance ?z_len ?z_list ?z_min ?z_range ?z_sum ?z_tuple ?z_zip ?v_MOST_HOUSES ?n_NoHouse ?x_NoHouse ?n_NoTable ?x_NoTable ?nn0 ?nn1 ?nn2 ?nn3 ?nn4 ?nn5 ?nn6 ?nn7 ?nn8 ?nn9 ?nn10 ?nn11 ?nn12 ?nn13 ?nn14 ?nzValueError ?nzany ?nzisinstance ?xgs ?xtk ?xcls1 ?xga1 ?xgt1 ?xcl1 ?xob1 ?xbe1 ?xve1 ?xex1 ?xk1_1 ?xk1_2 ?xk1_3 ?xk1_4 ?xk1_5 ?xk1_6 ?xk1_7 ?xk1_8 ?xk1_9 ?xk1_10 ?xk1_11 ?xk1_12 ?xk1_13 ?xk1_14 ?xcls2 ?xga2 ?xgt2 ?xcl2 ?xob2 ?xbe2 ?xve2 ?xex2 ?xk2_1 ?xk2_2 ?xk2_3 ?xk2_4 ?xk2_5 ?xk2_6 ?xk2_7 ?xk2_8 ?xk2_9 ?xk2_10 ?xk2_11 ?xk2_12 ?xk2_13 ?xk2_14 ?hL
    (case a1=>k_is)
    (case l1=>k_is)
    (case c1=>k_is)
    (case k1=>k_is)
    (case a2=>k_is)
    (case l2=>k_is)
    (case c2=>k_is)
    (case k2=>k_is)
    (case a3=>k_is)
    (case l3=>k_is)
    (case c3=>k_is)
    (case k3=>k_is)
    (case a4=>k_is)
    (case l4=>k_is)
    (case c4=>k_is)
    (case k4=>k_is)
    (case a5=>k_is)
    (case l5=>k_is)
    (case c5=>k_is)
    (case k5=>k_is)
    (case a6=>k_is)
    (case l6=>k_is)
    (case c6=>k_is)
    (case k6=>k_is)
    (case a7=>k_is)
    (case l7=>k_is)
    (case c7=>k_is)
    (case k7=>k_is)
    (case a8=>k_is)
    (case l8=>k_is)
    (case c8=>k_is)
    (case k8=>k_is)
    (case a9=>k_is)
    (case l9=>k_is)
    (case c9=>k_is)
    (case k9=>k_is)
    (case a10=>k_is)
    (case l10=>k_is)
    (case c10=>k_is)
    (case k10=>k_is)
    (case a11=>k_is)
    (case l11=>k_is)
    (case c11=>k_is)
    (case k11=>k_is)
    (case a12=>k_is)
    (case l12=>k_is)
    (case c12=>k_is)
    (case k12=>k_is)
    (case a13=>k_is)
    (case l13=>k_is)
    (case c13=>k_is)
    (case k13=>k_is)
    (case a14=>k_is)
    (case l14=>k_is)
    (case c14=>k_is)
    (case k14=>k_is)
    (case a15=>k_is)
    (case l15=>k_is)
    (case c15=>k_is)
    (case k15=>k_is)
    (case a16=>k_is)
    (case l16=>k_is)
    (case c16=>k_is)
    (case k16=>k_is)
    (case a17=>k_is)
    (case l17=>k_is)
    (case c17=>k_is)
    (case k17=>k_is)
    (case a18=>k_is)
    (case l18=>k_is)
    (case c18=>k_is)
    (case k18=>k_is)
    (case a19=>k_is)
    (case l19=>k_is)
    (case c19=>k_is)
    (case k19=>k_is)
    (case a20=>k_is)
    (case l20=>k_is)
    (case c20=>k_is)
    (case k20=>k_is)
    (case a21=>k_is)
    (case l21=>k_is)
    (case c21=>k_is)
    (case k21=>k_is)
    (case a22=>k_is)
    (case l22=>k_is)
    (case c22=>k_is)
    (case k22=>k_is)
    (case a23=>k_is)
    (case l23=>k_is)
    (case c23=>k_is)
    (case k23=>k_is)
    (case a24=>k_is)
    (case l24=>k_is)
    (case c24=>k_is)
    (case k24=>k_is)
    (case a25=>k_is)
    (case l25=>k_is)
    (case c25=>k_is)
    (case k25=>k_is)
    (case a26=>k_is)
    (case l26=>k_is)
    (case c26=>k_is)
    (case k26=>k_is)
    (case a27=>k_is)
    (case l27=>k_is)
    (case c27=>k_is)
    (case k27=>k_is)
    (case a28=>k_is)
    (case l28=>k_is)
    (case c28=>k_is)
    (case k28=>k_is)
    (case a29=>k_is)
    (case l29=>k_is)
    (case c29=>k_is)
    (case k29=>k_is)
    (case a30=>k_is)
    (case l30=>k_is)
    (case c30=>k_is)
    (case k30=>k_is)
    (case a31=>k_is)
    (case l31=>k_is)
    (case c31=>k_is)
    (case k31=>k_is)
    (case a32=>k_is)
    (case l32=>k_is)
    (case c32=>k_is)
    (case k32=>k_is)
    (case a33=>k_is)
    (case l33=>k_is)
    (case c33=>k_is)
    (case k33=>k_is)
    (case a34=>k_is)
    (case l34=>k_is)
    (case c34=>k_is)
    (case k34=>k_is)
    (case a35=>k_is)
    (case l35=>k_is)
    (case c35=>k_is)
    (case k35=>k_is)
    (case a36=>k_is)
    (case l36=>k_is)
    (case c36=>k_is)
    (case k36=>k_is)
    (case a37=>k_is)
    (case l37=>k_is)
    (case c37=>k_is)
    (case k37=>k_is)
    (case a38=>k_is)
    (case l38=>k_is)
    (case c38=>k_is)
    (case k38=>k_is)
    (case a39=>k_is)
    (case l39=>k_is)
    (case c39=>k_is)
    (case k39=>k_is)
    (case a40=>k_is)
    (case l40=>k_is)
    (case c40=>k_is)
    (case k40=>k_is)
    (case a41=>k_is)
    (case l41=>k_is)
    (case c41=>k_is)
    (case k41=>k_is)
    (case a42=>k_is)
    (case l42=>k_is)
    (case c42=>k_is)
    (case k42=>k_is)
    (case a43=>k_is)
    (case l43=>k_is)
    (case c43=>k_is)
    (case k43=>k_is)
    (case a44=>k_is)
    (case l44=>k_is)
    (case c44=>k_is)
    (case k44=>k_is)
    (case a45=>k_is)
    (case l45=>k_is)
    (case c45=>k_is)
    (case k45=>k_is)
    (case z_all=>k_is)
    (case z_any=>k_is)
    (case z_bool=>k_is)
    (case z_enumerate=>k_is)
    (case z_int=>k_is)
    (case z_isinstance=>k_is)
    (case z_len=>k_is)
    (case z_list=>k_is)
    (case z_min=>k_is)
    (case z_range=>k_is)
    (case z_sum=>k_is)
    (case z_tuple=>k_is)
    (case z_zip=>k_is)
    (case v_MOST_HOUSES=>k_is)
    (case n_NoHouse=>k_is)
    (case x_NoHouse=>k_exc)
    (case n_NoTable=>k_is)
    (case x_NoTable=>k_exc)
    (case nn0=>k_is)
    (case nn1=>k_is)
    (case nn2=>k_is)
    (case nn3=>k_is)
    (case nn4=>k_is)
    (case nn5=>k_is)
    (case nn6=>k_is)
    (case nn7=>k_is)
    (case nn8=>k_is)
    (case nn9=>k_is)
    (case nn10=>k_is)
    (case nn11=>k_is)
    (case nn12=>k_is)
    (case nn13=>k_is)
    (case nn14=>k_is)
    (case nzValueError=>k_is)
    (case nzany=>k_is)
    (case nzisinstance=>k_is)
    (case xgs=>k_is)
    (case xtk=>k_is)
    (case xcls1=>k_is)
    (case xga1=>k_is)
    (case xgt1=>k_is)
    (case xcl1=>k_is)
    (case xob1=>k_is)
    (case xbe1=>k_is)
    (case xve1=>kit_is)
    (case xex1=>kts_exm)
    (case xk1_1=>kit_is)
    (case xk1_2=>kit_is)
    (case xk1_3=>kit_is)
    (case xk1_4=>kit_is)
    (case xk1_5=>kit_is)
    (case xk1_6=>kit_is)
    (case xk1_7=>kit_is)
    (case xk1_8=>kit_is)
    (case xk1_9=>kit_is)
    (case xk1_10=>kit_is)
    (case xk1_11=>kit_is)
    (case xk1_12=>kit_is)
    (case xk1_13=>kit_is)
    (case xk1_14=>kit_is)
    (case xcls2=>k_is)
    (case xga2=>k_is)
    (case xgt2=>k_is)
    (case xcl2=>k_is)
    (case xob2=>k_is)
    (case xbe2=>k_is)
    (case xve2=>kit_is)
    (case xex2=>kts_exm)
    (case xk2_1=>kit_is)
    (case xk2_2=>kit_is)
    (case xk2_3=>kit_is)
    (case xk2_4=>kit_is)
    (case xk2_5=>kit_is)
    (case xk2_6=>kit_is)
    (case xk2_7=>kit_is)
    (case xk2_8=>kit_is)
    (case xk2_9=>kit_is)
    (case xk2_10=>kit_is)
    (case xk2_11=>kit_is)
    (case xk2_12=>kit_is)
    (case xk2_13=>kit_is)
    (case xk2_14=>kit_is)
    (case hL=>rfl)
